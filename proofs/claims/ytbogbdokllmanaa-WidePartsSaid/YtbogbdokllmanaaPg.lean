/-
  What the claim's law is built of: LongDiv, WBack, RefN, RefO, RefG3, RefR, RefS, OverN, OverA.
-/
import Derived.Test.YtbogbdokllmanaaPf
import Derived.Deep.DeepCutAuto
import Derived.Deep.CutRange
import Derived.Deep.CutBlock
/-
  wide: the quotient by a number of two limbs or more.
-/
namespace Go.Proofs.Ytbogbdokllmanaa
open Go Go.RowKit
set_option maxRecDepth 100000

theorem run_allocL {o : Oper} {a : Act} (ho : o.op = .alloc 73) (w : World) :
    (execOp a.eval o).run Try.prog w = .ok (.value (.pointer (some ⟨w.heap.size, 0, none⟩))) (w.alloc (.cells (cells 17 (fun _ => 0)) 73)) := by
  rw [← zeros17]
  unfold execOp
  rw [ho]
  dsimp only
  go_simp
theorem wpAnyU_allocL {ops : Array Oper} {Q : Exit → Act → World → Prop} {md : Region.Mode} {S : World → Prop} {req : Nat → Bool} {i : Nat} {o : Oper} {d : Option Tmp} {fuel : Nat} {listed : Array Bool} {a : Act} {w : World}
    (hi : ops[i]? = some o) (hd : o.dst = d) (hr : Region.ready md ops listed = [i]) (hw : Region.wanted o (yielded ops a.tmps) = true) (ho : o.op = .alloc 73) (hSup : ∀ w w', S w → Up w w' → S w')
    (h : ∀ w1, Up w w1 → wpAnyU Try.prog md ops Q S req fuel (listed.setIfInBounds i true) (a.put d (.pointer (some ⟨w1.heap.size, 0, none⟩))) (w1.alloc (.cells (cells 17 (fun _ => 0)) 73))) : wpAnyU Try.prog md ops Q S req (fuel + 1) listed a w := by
  subst hd
  refine wpAnyU_one hi hr hw fun w1 hw1 => ?_
  unfold Oper.wp
  rw [run_allocL ho w1]
  exact ⟨fun _ hS => hSup _ _ hS (Up.alloc _ _), h w1 hw1⟩
theorem wpAnyU_alloc2L {ops : Array Oper} {Q : Exit → Act → World → Prop} {md : Region.Mode} {S : World → Prop} {req : Nat → Bool} {i j : Nat} {oi oj : Oper} {di dj : Tmp} {fuel : Nat} {listed : Array Bool} {a : Act} {w : World}
    (hi : ops[i]? = some oi) (hj : ops[j]? = some oj) (hdi : oi.dst = some di) (hdj : oj.dst = some dj) (hd : di ≠ dj) (hgi : oi.guard = none) (hgj : oj.guard = none) (hoi : oi.op = .alloc 73) (hoj : oj.op = .alloc 73)
    (hr : Region.ready md ops listed = [i, j]) (hr1 : Region.ready md ops (listed.setIfInBounds i true) = [j]) (hr2 : Region.ready md ops (listed.setIfInBounds j true) = [i]) (hij : i ≠ j) (hSup : ∀ w w', S w → Up w w' → S w')
    (h : ∀ w1 p q, Up w w1 → Row w1 p 73 17 (fun _ => 0) → Row w1 q 73 17 (fun _ => 0) → p ≠ q → w.heap.size ≤ p → w.heap.size ≤ q →
      wpAnyU Try.prog md ops Q S req fuel ((listed.setIfInBounds i true).setIfInBounds j true) ((a.put (some di) (.pointer (some ⟨p, 0, none⟩))).put (some dj) (.pointer (some ⟨q, 0, none⟩))) w1) :
    wpAnyU Try.prog md ops Q S req (fuel + 2) listed a w := by
  have hwi : ∀ a : Act, Region.wanted oi (yielded ops a.tmps) = true := fun a => by simp [Region.wanted, hgi]
  have hwj : ∀ a : Act, Region.wanted oj (yielded ops a.tmps) = true := fun a => by simp [Region.wanted, hgj]
  refine wpAnyU_all hr (by simp) fun w1 hw1 k hk => ?_
  simp only [List.mem_cons, List.not_mem_nil, or_false] at hk
  rcases hk with rfl | rfl
  · unfold wpOp
    simp only [hi, hwi, if_true]
    refine .inl ?_
    unfold Oper.wp
    rw [run_allocL hoi w1]
    refine ⟨fun _ hS => hSup _ _ hS (Up.alloc _ _), ?_⟩
    refine wpAnyU_allocL hj hdj hr1 (hwj _) hoj hSup fun w2 hw2 => ?_
    rw [hdi]
    have h1 := hw1.size
    have h2 := hw2.size
    simp only [World.alloc, Array.size_push] at h2
    exact h _ _ _ ((hw1.trans ((Up.alloc _ _).trans hw2)).trans (Up.alloc _ _)) ((Row.up (row_newc _ 17 _ rfl) hw2).up (Up.alloc _ _)) (row_newc _ 17 _ rfl) (by omega) (by omega) (by omega)
  · unfold wpOp
    simp only [hj, hwj, if_true]
    refine .inl ?_
    unfold Oper.wp
    rw [run_allocL hoj w1]
    refine ⟨fun _ hS => hSup _ _ hS (Up.alloc _ _), ?_⟩
    refine wpAnyU_allocL hi hdi hr2 (hwi _) hoi hSup fun w2 hw2 => ?_
    rw [hdj, Act.put_comm a (x := some dj) (y := some di) _ _ (fun d h1 h2 => hd (by rw [Option.some.inj h1, Option.some.inj h2])), Array.setIfInBounds_comm _ _ (Ne.symm hij)]
    have h1 := hw1.size
    have h2 := hw2.size
    simp only [World.alloc, Array.size_push] at h2
    exact h _ _ _ ((hw1.trans ((Up.alloc _ _).trans hw2)).trans (Up.alloc _ _)) (row_newc _ 17 _ rfl) ((Row.up (row_newc _ 17 _ rfl) hw2).up (Up.alloc _ _)) (by omega) (by omega) (by omega)
theorem wp_worldD {P : Program} {c : Code} {Q : Exit → Act → World → Prop} {a : Act} {w : World} (R : World → Prop) (h : R w) (k : ∀ w', R w' → c.wp P Q a w') : c.wp P Q a w := k w h
section
variable {P : Program} {ops : Array Oper} {Q : Exit → Act → World → Prop} {md : Region.Mode} {S : World → Prop} {req : Nat → Bool}
theorem wpAnyU_callN {i : Nat} {o : Oper} {d : Option Tmp} {fuel : Nat} {listed : Array Bool} {a : Act} {w : World} {f : FuncId} {args : Array Value} {R : World → Value → World → Prop} (hi : ops[i]? = some o) (hd : o.dst = d) (hr : Region.ready md ops listed = [i]) (hw : Region.wanted o (yielded ops a.tmps) = true) (hq : req i = false)
    (hrun : ∀ w', (execOp a.eval o).run P w' = .ok (.enter f args) w') (hc : ∀ w', Up w w' → Calls P f args w' fun e w'' => ∃ v, e = .returned v ∧ R w' v w'')
    (h : ∀ w' v w'', Up w w' → R w' v w'' → wpAnyU P md ops Q S req fuel (listed.setIfInBounds i true) (a.put d v) w'') : wpAnyU P md ops Q S req (fuel + 1) listed a w := by
  refine wpAnyU_one hi hr hw fun w1 hw1 => ?_
  unfold Oper.wp
  rw [hrun w1]
  subst hd
  refine Calls.mono (hc w1 hw1) fun e w'' he => ?_
  obtain ⟨v, rfl, hR⟩ := he
  exact ⟨(fun h1 => by (rw [hq] at h1; cases h1)), h w1 v w'' hw1 hR⟩
end
theorem undL2 : Try.prog.underlying 73 = some (.array (Try.prog.arrayLen 73) (Try.prog.elem 73)) := by kernel_rfl
theorem lenL2 : Try.prog.arrayLen 73 = 17 := by kernel_rfl
theorem run_size1 (w : World) : (sizeOf (Try.prog.elem 73)).run Try.prog w = .ok 1 w := by rfl
theorem slice_win {p i m : Nat} (h : i + m < 17) (w : World) :
    (Instr.sliceAt 73 (.pointer (some ⟨p, 0, none⟩)) (some (.int .i64 (i : Nat))) (some (.int .i64 ((i : Int) + (m : Int) + 1))) none).run Try.prog w = .ok (.slice (some ⟨p, i, none⟩) (m + 1) (17 - i)) w := by
  rw [run_sliceAt_array_lh w 73 ⟨p, 0, none⟩ undL2 .i64 .i64 (i : Nat) ((i : Int) + (m : Int) + 1) (by omega) (by omega) (by rw [lenL2]; omega), run_size1, lenL2]
  simp only [Result.andThen_ok, slicedAt, Int.toNat_natCast, Nat.mul_one]
  rw [if_neg (by omega), show ((i : Int) + (m : Int) + 1).toNat - i = m + 1 by omega]
  simp [Addr.add]
  intro h0; exact h0.symm
theorem slice_low {q m : Nat} (h : m < 17) (w : World) :
    (Instr.sliceAt 73 (.pointer (some ⟨q, 0, none⟩)) none (some (.int .i64 (m : Nat))) none).run Try.prog w = .ok (.slice (some ⟨q, 0, none⟩) m 17) w := by
  rw [run_sliceAt_array_h w 73 ⟨q, 0, none⟩ undL2 .i64 (m : Nat) (by omega) (by rw [lenL2]; omega), run_size1, lenL2]
  simp [slicedAt, Addr.add]
set_option maxHeartbeats 8000000 in
theorem divide_long (x y : Nat) (hx : x < bp 16) (hy : y < bp 16) (hxy : y ≤ x) (hm2 : 2 ≤ lenL (limb y) 16) (w : World) :
    Calls Try.prog 48 #[wideV x, wideV y] w fun e w' => e = .returned (divV x y) ∧ Up w w' := by
  have HLX := hid (length_any x)
  have HLY := hid (length_any y)
  have hn16 := lenL_le (limb x) 16
  have hm16 := lenL_le (limb y) 16
  have hyb := sum_len hy
  have hxb := lt_bp_len hx
  have hyl := lt_bp_len hy
  have hyg := bp_le_of_len (limb y) 16 (by omega)
  have htop := lenL_top (limb y) 16 (by omega)
  rw [sumL_limb, Nat.mod_eq_of_lt hy] at hyg
  obtain ⟨n, hn⟩ : ∃ n, lenL (limb x) 16 = n := ⟨_, rfl⟩
  obtain ⟨m, hm⟩ : ∃ m, lenL (limb y) 16 = m := ⟨_, rfl⟩
  rw [hn] at HLX hn16 hxb
  rw [hm] at HLY hm16 hyl hyg htop hm2
  have hmn : m ≤ n := by
    rcases Nat.lt_or_ge (m - 1) n with h | h
    · omega
    · have := bp_mono h; omega
  obtain ⟨s, hs⟩ : ∃ s, s = 64 - Lib.bitLen (limb y (m - 1)) := ⟨_, rfl⟩
  obtain ⟨hP1, hP2, hs64⟩ := norm_part hyl (by omega) htop hs
  have hlz := fun w => Try.bits_LeadingZeros64 (limb y (m - 1) : Nat) w (by omega) (by have := limb_lt y (m - 1); omega)
  have hbl := (bitLen_spec (limb_lt y (m - 1)) htop).2.2.2
  rw [Int.toNat_natCast, show (64 : Int) - (Lib.bitLen (limb y (m - 1)) : Int) = (s : Nat) by omega] at hlz
  have HLZ := hid hlz
  have HL1 := hid (left_any x hx s hs64)
  have HL2 := hid (left_any y hy s hs64)
  have es : IntKind.u64.wrap (s : Int) = (s : Nat) := by rw [IntKind.wrap_u64]; omega
  have em1 : IntKind.i64.wrap ((m : Int) - 1) = ((m - 1 : Nat) : Int) := by rw [IntWalk.i64_in _ (by omega)]; omega
  obtain ⟨m1, hm1⟩ : ∃ m1, m - 1 = m1 := ⟨_, rfl⟩
  rw [hm1] at em1 HLZ htop
  have enm : IntKind.i64.wrap ((n : Int) - (m : Int)) = (n : Int) - (m : Int) := IntWalk.i64_in _ (by omega)
  have HP1 := hid hP1
  have HP2 := hid hP2
  have Hn := hid hxb
  have hy0 := hid (show 0 < y by have := bp_pos (m - 1); omega)
  have Hx := hid hx
  have Hy := hid hy
  have Hm1 := hid hm1
  have ltm : m1 < 16 := by omega
  clear hyb hyg hyl hxb htop hs hlz hbl hP1 hP2 hxy hx hy hn hm hm1
  unfold wideV at HLX HLY HL1 HL2
  unfold longV at HL1 HL2
  have HD := hid (show divV x y = divV x y from rfl)
  unfold wideV
  go_enter Try.func48, Try.ntmps48
  go_wp2
  refine wp_region_upH (S := (fun wq => Row wq w.heap.size 27 16 (limb x) ∧ Row wq (w.heap.size + 1) 27 16 (limb y) ∧ Row wq (w.heap.size + 1 + 1) 27 16 (fun _ => 0) ∧ Row wq (w.heap.size + 1 + 1 + 1) 27 16 (fun _ => 0) ∧ Below w.heap.size w wq)) (req := (fun _ => true)) (by kernel_rfl) (fun _ _ h hu => ⟨(h.1).up hu, (h.2.1).up hu, (h.2.2.1).up hu, (h.2.2.2.1).up hu, below_up (h.2.2.2.2) hu⟩) ⟨(by (repeat (first | assumption | ((with_reducible apply row_newc); (focus (first | rfl | (simp; done)))) | ((with_reducible apply row_newz); (focus (first | rfl | (simp; done)))) | (with_reducible apply row_same) | ((with_reducible apply row_else); (focus (first | (simp; done) | (simp; omega) | omega))) | (with_reducible apply row_alloc) | (with_reducible apply row_drew) | (with_reducible apply row_drewN) | ((with_reducible apply row_up); assumption)))), (by (repeat (first | assumption | ((with_reducible apply row_newc); (focus (first | rfl | (simp; done)))) | ((with_reducible apply row_newz); (focus (first | rfl | (simp; done)))) | (with_reducible apply row_same) | ((with_reducible apply row_else); (focus (first | (simp; done) | (simp; omega) | omega))) | (with_reducible apply row_alloc) | (with_reducible apply row_drew) | (with_reducible apply row_drewN) | ((with_reducible apply row_up); assumption)))), (by (repeat (first | assumption | ((with_reducible apply row_newc); (focus (first | rfl | (simp; done)))) | ((with_reducible apply row_newz); (focus (first | rfl | (simp; done)))) | (with_reducible apply row_same) | ((with_reducible apply row_else); (focus (first | (simp; done) | (simp; omega) | omega))) | (with_reducible apply row_alloc) | (with_reducible apply row_drew) | (with_reducible apply row_drewN) | ((with_reducible apply row_up); assumption)))), (by (repeat (first | assumption | ((with_reducible apply row_newc); (focus (first | rfl | (simp; done)))) | ((with_reducible apply row_newz); (focus (first | rfl | (simp; done)))) | (with_reducible apply row_same) | ((with_reducible apply row_else); (focus (first | (simp; done) | (simp; omega) | omega))) | (with_reducible apply row_alloc) | (with_reducible apply row_drew) | (with_reducible apply row_drewN) | ((with_reducible apply row_up); assumption)))), (by repeat (first | assumption | (with_reducible apply Up.of) | (with_reducible exact Below.refl _ _) | (with_reducible exact Up.refl _) | ((with_reducible apply bl_setRow); (focus (first | exact Nat.le_refl _ | (simp; done) | (simp; omega) | omega))) | (with_reducible apply below_drewN) | (with_reducible apply Below.drew) | ((with_reducible apply bl_alloc); (focus (first | exact Nat.le_refl _ | (simp; done) | (simp; omega) | omega))) | ((with_reducible apply bl_setCell); (focus (first | exact Nat.le_refl _ | (simp; done) | (simp; omega) | omega))) | ((with_reducible apply up_tr); assumption)))⟩ (fun wS hSS hSu => ?_)
  have ⟨hS1, hS2, hS3, hS4, hSB⟩ := hSS
  refine wpAnyU_take (i := 0) (d := (some 15)) (v := _) rfl rfl (by kernel_rfl) (fun _ _ _ h => h) hSu.out hSS (Or.inl ⟨by rfl, fun w' hSw => yu_value (run_ld undW infoW _ rfl _ rfl hSw.1)⟩) ?_
  try simp only [Act.put, pu1, pu2, pu3]
  refine wpAnyU_take (i := 1) (d := (some 16)) (v := _) rfl rfl (by kernel_rfl) (fun _ _ _ h => h) hSu.out hSS (Or.inl ⟨by rfl, fun w' hSw => yu_call ?_ (HLX.out _)⟩) ?_
  · go_simp
  try simp only [Act.put, pu1, pu2, pu3]
  refine wpAnyU_take (i := 2) (d := (some 17)) (v := _) rfl rfl (by kernel_rfl) (fun _ _ _ h => h) hSu.out hSS (Or.inl ⟨by rfl, fun w' hSw => yu_value (run_ld undW infoW _ rfl _ rfl hSw.2.1)⟩) ?_
  try simp only [Act.put, pu1, pu2, pu3]
  refine wpAnyU_take (i := 3) (d := (some 18)) (v := _) rfl rfl (by kernel_rfl) (fun _ _ _ h => h) hSu.out hSS (Or.inl ⟨by rfl, fun w' hSw => yu_call ?_ (HLY.out _)⟩) ?_
  · go_simp
  try simp only [Act.put, pu1, pu2, pu3]
  refine wpAnyU_pure (i := 4) (d := (some 6)) (v := ?_) rfl rfl (by kernel_rfl) (fun _ _ _ h => h) hSu.out (Or.inl ⟨by rfl, fun w' _ => yu_value ?_⟩) ?_
  rotate_left
  · (go_simp; (try exact rfl))
  try simp only [Act.put, pu1, pu2, pu3]
  refine wpAnyU_pure (i := 5) (d := (some 7)) (v := ?_) rfl rfl (by kernel_rfl) (fun _ _ _ h => h) hSu.out (Or.inl ⟨by rfl, fun w' _ => yu_value ?_⟩) ?_
  rotate_left
  · (go_simp; (try exact rfl))
  try simp only [Act.put, pu1, pu2, pu3]
  refine wpAnyU_done (by kernel_rfl) (fun wF huE => ?_) _
  have gX := hS1.up huE
  have gY := hS2.up huE
  have gQ := hS3.up huE
  have gR := hS4.up huE
  have gB := below_up hSB huE
  clear hS1 hS2 hS3 hS4 hSB hSS huE
  have hct := gY.cell m1 ltm
  go_upto_region 3 with (first | (go_at_call 51; (with_reducible refine (HLZ.out _).mono ?_); rintro e w' ⟨rfl, rfl⟩))
  clear hct HLX HLY HLZ
  refine wp_region_upH (S := (fun wq => Row wq w.heap.size 27 16 (limb x) ∧ Row wq (w.heap.size + 1) 27 16 (limb y) ∧ Row wq (w.heap.size + 1 + 1) 27 16 (fun _ => 0) ∧ Row wq (w.heap.size + 1 + 1 + 1) 27 16 (fun _ => 0) ∧ Below w.heap.size w wq)) (req := (fun j => j != 8 && j != 9)) (by kernel_rfl) (fun _ _ h hu => ⟨(h.1).up hu, (h.2.1).up hu, (h.2.2.1).up hu, (h.2.2.2.1).up hu, below_up (h.2.2.2.2) hu⟩) ⟨(by (repeat (first | assumption | ((with_reducible apply row_newc); (focus (first | rfl | (simp; done)))) | ((with_reducible apply row_newz); (focus (first | rfl | (simp; done)))) | (with_reducible apply row_same) | ((with_reducible apply row_else); (focus (first | (simp; done) | (simp; omega) | omega))) | (with_reducible apply row_alloc) | (with_reducible apply row_drew) | (with_reducible apply row_drewN) | ((with_reducible apply row_up); assumption)))), (by (repeat (first | assumption | ((with_reducible apply row_newc); (focus (first | rfl | (simp; done)))) | ((with_reducible apply row_newz); (focus (first | rfl | (simp; done)))) | (with_reducible apply row_same) | ((with_reducible apply row_else); (focus (first | (simp; done) | (simp; omega) | omega))) | (with_reducible apply row_alloc) | (with_reducible apply row_drew) | (with_reducible apply row_drewN) | ((with_reducible apply row_up); assumption)))), (by (repeat (first | assumption | ((with_reducible apply row_newc); (focus (first | rfl | (simp; done)))) | ((with_reducible apply row_newz); (focus (first | rfl | (simp; done)))) | (with_reducible apply row_same) | ((with_reducible apply row_else); (focus (first | (simp; done) | (simp; omega) | omega))) | (with_reducible apply row_alloc) | (with_reducible apply row_drew) | (with_reducible apply row_drewN) | ((with_reducible apply row_up); assumption)))), (by (repeat (first | assumption | ((with_reducible apply row_newc); (focus (first | rfl | (simp; done)))) | ((with_reducible apply row_newz); (focus (first | rfl | (simp; done)))) | (with_reducible apply row_same) | ((with_reducible apply row_else); (focus (first | (simp; done) | (simp; omega) | omega))) | (with_reducible apply row_alloc) | (with_reducible apply row_drew) | (with_reducible apply row_drewN) | ((with_reducible apply row_up); assumption)))), (by repeat (first | assumption | (with_reducible apply Up.of) | (with_reducible exact Below.refl _ _) | (with_reducible exact Up.refl _) | ((with_reducible apply bl_setRow); (focus (first | exact Nat.le_refl _ | (simp; done) | (simp; omega) | omega))) | (with_reducible apply below_drewN) | (with_reducible apply Below.drew) | ((with_reducible apply bl_alloc); (focus (first | exact Nat.le_refl _ | (simp; done) | (simp; omega) | omega))) | ((with_reducible apply bl_setCell); (focus (first | exact Nat.le_refl _ | (simp; done) | (simp; omega) | omega))) | ((with_reducible apply up_tr); assumption)))⟩ (fun wS hSS hSu => ?_)
  have ⟨hS1, hS2, hS3, hS4, hSB⟩ := hSS
  clear gX gY gQ gR gB
  refine wpAnyU_take (i := 0) (d := (some 25)) (v := _) rfl rfl (by kernel_rfl) (fun _ _ _ h => h) hSu.out hSS (Or.inl ⟨by rfl, fun w' hSw => yu_value (run_ld undW infoW _ rfl _ rfl hSw.1)⟩) ?_
  try simp only [Act.put, pu1, pu2, pu3]
  refine wpAnyU_pure (i := 1) (d := (some 26)) (v := ?_) rfl rfl (by kernel_rfl) (fun _ _ _ h => h) hSu.out (Or.inl ⟨by rfl, fun w' _ => yu_value ?_⟩) ?_
  rotate_left
  · (go_simp; (try exact rfl))
  try simp only [Act.put, pu1, pu2, pu3]
  refine wpAnyU_take (i := 2) (d := (some 27)) (v := _) rfl rfl (by kernel_rfl) (fun _ _ _ h => h) hSu.out hSS (Or.inl ⟨by rfl, fun w' hSw => yu_call ?_ (HL1.out _)⟩) ?_
  · go_simp
  try simp only [Act.put, pu1, pu2, pu3]
  refine wpAnyU_take (i := 3) (d := (some 28)) (v := _) rfl rfl (by kernel_rfl) (fun _ _ _ h => h) hSu.out hSS (Or.inl ⟨by rfl, fun w' hSw => yu_value (run_ld undW infoW _ rfl _ rfl hSw.2.1)⟩) ?_
  try simp only [Act.put, pu1, pu2, pu3]
  refine wpAnyU_pure (i := 4) (d := (some 29)) (v := ?_) rfl rfl (by kernel_rfl) (fun _ _ _ h => h) hSu.out (Or.inl ⟨by rfl, fun w' _ => yu_value ?_⟩) ?_
  rotate_left
  · (go_simp; (try exact rfl))
  try simp only [Act.put, pu1, pu2, pu3]
  refine wpAnyU_take (i := 5) (d := (some 30)) (v := _) rfl rfl (by kernel_rfl) (fun _ _ _ h => h) hSu.out hSS (Or.inl ⟨by rfl, fun w' hSw => yu_call ?_ (HL2.out _)⟩) ?_
  · go_simp
  try simp only [Act.put, pu1, pu2, pu3]
  refine wpAnyU_alloc2L (i := 6) (j := 7) (di := 9) (dj := 10) rfl rfl rfl rfl (by decide) rfl rfl rfl rfl (by kernel_rfl) (by kernel_rfl) (by kernel_rfl) (by decide) hSu.out fun w3 p q hw3 hp hq hpq hpl hql => ?_
  try simp only [Act.put, pu1, pu2, pu3]
  have l3 := hS3.lt
  have l4 := hS4.lt
  have lB := hSB.size
  refine wpAnyU_one (i := 8) rfl (by kernel_rfl) (by rfl) fun w4 hw4 => ?_
  refine wp_st_rowN infoL rfl _ _ rfl _ rfl rfl (hp.up hw4) ?_
  refine ⟨fun h => by simp at h, ?_⟩
  try simp only [Act.put, pu1, pu2, pu3]
  refine wpAnyU_one (i := 9) rfl (by kernel_rfl) (by rfl) fun w5 hw5 => ?_
  refine wp_st_rowN infoL rfl _ _ rfl _ rfl rfl (((hq.up hw4).row_other _ (Ne.symm hpq)).up hw5) ?_
  refine ⟨fun h => by simp at h, ?_⟩
  try simp only [Act.put, pu1, pu2, pu3]
  refine wpAnyU_done (by kernel_rfl) (fun wF huE => ?_) _
  have g3 := (((((hS3.up hw3).up hw4).row_other (cells 17 (limb (x * 2 ^ s))) (show w.heap.size + 1 + 1 ≠ p by omega)).up hw5).row_other (cells 17 (limb (y * 2 ^ s))) (show w.heap.size + 1 + 1 ≠ q by omega)).up huE
  have g4 := (((((hS4.up hw3).up hw4).row_other (cells 17 (limb (x * 2 ^ s))) (show w.heap.size + 1 + 1 + 1 ≠ p by omega)).up hw5).row_other (cells 17 (limb (y * 2 ^ s))) (show w.heap.size + 1 + 1 + 1 ≠ q by omega)).up huE
  have gp : Row wF p 73 17 (limb (x * 2 ^ s)) := ((((hp.up hw4).setRow _).up hw5).row_other (cells 17 (limb (y * 2 ^ s))) hpq).up huE
  have gq : Row wF q 73 17 (limb (y * 2 ^ s)) := ((((hq.up hw4).row_other (cells 17 (limb (x * 2 ^ s))) (Ne.symm hpq)).up hw5).setRow _).up huE
  have gB := below_up (below_setRow (below_up (below_setRow (below_up (below_up hSB hw3) hw4) (show w.heap.size ≤ p by omega) (cells 17 (limb (x * 2 ^ s)))) hw5) (show w.heap.size ≤ q by omega) (cells 17 (limb (y * 2 ^ s)))) huE
  have lp : w.heap.size + 1 + 1 + 1 < p := by omega
  have lq : w.heap.size + 1 + 1 + 1 < q := by omega
  clear hS1 hS2 hS3 hS4 hSB hSS hw3 hw4 hw5 huE hp hq hpl hql l3 l4 lB HL1 HL2
  have l1 := gp.lt
  have l2 := gq.lt
  have l5 := gB.size
  go_upto_block 0 with (fail)
  try simp only [Act.put]
  refine wp_worldD (fun wd => Row wd (w.heap.size + 1 + 1) 27 16 (fun _ => 0) ∧ Row wd (w.heap.size + 1 + 1 + 1) 27 16 (fun _ => 0) ∧ Row wd p 73 17 (limb (x * 2 ^ s)) ∧ Row wd q 73 17 (limb (y * 2 ^ s)) ∧ Row wd wF.heap.size 27 16 (fun _ => 0) ∧ Below w.heap.size w wd) ⟨(by (repeat (first | assumption | ((with_reducible apply row_newc); (focus (first | rfl | (simp; done)))) | ((with_reducible apply row_newz); (focus (first | rfl | (simp; done)))) | (with_reducible apply row_same) | ((with_reducible apply row_else); (focus (first | (simp; done) | (simp; omega) | omega))) | (with_reducible apply row_alloc) | (with_reducible apply row_drew) | (with_reducible apply row_drewN) | ((with_reducible apply row_up); assumption)))), (by (repeat (first | assumption | ((with_reducible apply row_newc); (focus (first | rfl | (simp; done)))) | ((with_reducible apply row_newz); (focus (first | rfl | (simp; done)))) | (with_reducible apply row_same) | ((with_reducible apply row_else); (focus (first | (simp; done) | (simp; omega) | omega))) | (with_reducible apply row_alloc) | (with_reducible apply row_drew) | (with_reducible apply row_drewN) | ((with_reducible apply row_up); assumption)))), (by (repeat (first | assumption | ((with_reducible apply row_newc); (focus (first | rfl | (simp; done)))) | ((with_reducible apply row_newz); (focus (first | rfl | (simp; done)))) | (with_reducible apply row_same) | ((with_reducible apply row_else); (focus (first | (simp; done) | (simp; omega) | omega))) | (with_reducible apply row_alloc) | (with_reducible apply row_drew) | (with_reducible apply row_drewN) | ((with_reducible apply row_up); assumption)))), (by (repeat (first | assumption | ((with_reducible apply row_newc); (focus (first | rfl | (simp; done)))) | ((with_reducible apply row_newz); (focus (first | rfl | (simp; done)))) | (with_reducible apply row_same) | ((with_reducible apply row_else); (focus (first | (simp; done) | (simp; omega) | omega))) | (with_reducible apply row_alloc) | (with_reducible apply row_drew) | (with_reducible apply row_drewN) | ((with_reducible apply row_up); assumption)))), (by (repeat (first | assumption | ((with_reducible apply row_newc); (focus (first | rfl | (simp; done)))) | ((with_reducible apply row_newz); (focus (first | rfl | (simp; done)))) | (with_reducible apply row_same) | ((with_reducible apply row_else); (focus (first | (simp; done) | (simp; omega) | omega))) | (with_reducible apply row_alloc) | (with_reducible apply row_drew) | (with_reducible apply row_drewN) | ((with_reducible apply row_up); assumption)))), (by repeat (first | assumption | (with_reducible apply Up.of) | (with_reducible exact Below.refl _ _) | (with_reducible exact Up.refl _) | ((with_reducible apply bl_setRow); (focus (first | exact Nat.le_refl _ | (simp; done) | (simp; omega) | omega))) | (with_reducible apply below_drewN) | (with_reducible apply Below.drew) | ((with_reducible apply bl_alloc); (focus (first | exact Nat.le_refl _ | (simp; done) | (simp; omega) | omega))) | ((with_reducible apply bl_setCell); (focus (first | exact Nat.le_refl _ | (simp; done) | (simp; omega) | omega))) | ((with_reducible apply up_tr); assumption)))⟩ (fun w0 hD => ?_)
  clear g3 g4 gp gq gB
  obtain ⟨g3, g4, gp, gq, gT, gB⟩ := hD
  have lt : p < wF.heap.size ∧ q < wF.heap.size := ⟨l1, l2⟩
  clear l1 l2 l5
  generalize wF.heap.size = t at *
  clear enm em1 es
  obtain ⟨P, hP⟩ : ∃ P, y * 2 ^ s = P := ⟨_, rfl⟩
  obtain ⟨X2, hX2⟩ : ∃ X2, x * 2 ^ s = X2 := ⟨_, rfl⟩
  have HP := hid hP
  have HX2 := hid hX2
  rw [hP] at HP1 HP2 gq
  rw [hX2] at gp
  clear hP hX2
  have hPm : sumL (limb P) m = P := by rw [sumL_limb, Nat.mod_eq_of_lt HP1.out]
  have HPm := hid hPm
  have hP0 : 0 < P := by have := HP2.out; have := bp_pos (m - 1); omega
  have HP0 := hid hP0
  clear hPm hP0
  go_wp2_with fail
  go_loopw [12] (fun ti wr => ∃ (k : Nat) (S T : Nat → Nat), k ≤ n - m + 1 ∧ ti = .int .i64 ((k : Int) - 1) ∧ (∀ j, j < 17 → S j < 18446744073709551616) ∧ (∀ j, j < 16 → T j < 18446744073709551616) ∧ (∀ j, j < k → T j = 0) ∧ X2 = sumL T 16 * P + sumL S 17 ∧ sumL S 17 < P * bp k ∧
      Row wr (w.heap.size + 1 + 1) 27 16 (fun _ => 0) ∧ Row wr (w.heap.size + 1 + 1 + 1) 27 16 (fun _ => 0) ∧ Row wr p 73 17 S ∧ Row wr q 73 17 (limb P) ∧ Row wr t 27 16 T ∧ Below w.heap.size w wr)
    (fun ti _ => (intOf ti + 1).toNat)
  case atStart =>
    refine ⟨n - m + 1, limb X2, fun _ => 0, Nat.le_refl _, ?_, fun j _ => limb_lt _ j, fun _ _ => by simp, fun _ _ => rfl, ?_, ?_, g3, g4, gp, gq, gT, gB⟩
    · congr 1; omega
    · have h1 := Hn.out
      have h2 := HX2.out
      have h3 := bp_mono hn16
      have h4 := bp_succ 16
      have h5 : 2 ^ s ≤ 18446744073709551616 := Nat.pow_le_pow_right (n := 2) (by decide) (show s ≤ 64 by omega)
      have h6 : x * 2 ^ s < bp 16 * 18446744073709551616 := Nat.mul_lt_mul_of_lt_of_le (by omega) h5 (by decide)
      rw [sumL_zeros, sumL_limb, Nat.mod_eq_of_lt (by rw [h4]; omega)]
      omega
    · have h1 := Hn.out
      have h2 := HX2.out
      have h7 := HP2.out
      have h5 : 2 ^ s ≤ 9223372036854775808 := Nat.pow_le_pow_right (n := 2) (by decide) (show s ≤ 63 by omega)
      have h6 : x * 2 ^ s < bp n * 9223372036854775808 := Nat.mul_lt_mul_of_lt_of_le h1 h5 (by decide)
      have h8 : 9223372036854775808 * bp (m - 1) * bp (n - m + 1) ≤ P * bp (n - m + 1) := Nat.mul_le_mul_right _ h7
      rw [Nat.mul_assoc, ← bp_add, show m - 1 + (n - m + 1) = n by omega] at h8
      have h9 := Nat.mod_le X2 (bp 17)
      rw [sumL_limb]
      omega
  case round =>
    clear g3 g4 gp gq gT gB
    obtain ⟨k, S, T, hk, rfl, hS, hT, hT0, hX, hR, g3, g4, gp, gq, gT, gB⟩ := hrel
    have HS := hid hS
    have HT := hid hT
    have HT0 := hid hT0
    have HX := hid hX
    have HR := hid hR
    clear hS hT hT0 hX hR
    rcases Nat.eq_zero_or_pos k with hk0 | hk0
    · subst hk0
      have hE : sumL T 16 = x / y ∧ sumL S 17 / 2 ^ s % bp 16 = x % y := by
        have h1 := HX.out
        have h2 := HR.out
        rw [bp_zero, Nat.mul_one] at h2
        rw [← HX2.out, ← HP.out] at h1
        rw [← HP.out] at h2
        obtain ⟨h3, h4⟩ := long_end hy0.out h1 h2
        refine ⟨h3, ?_⟩
        rw [h4]
        exact Nat.mod_eq_of_lt (Nat.lt_of_le_of_lt (Nat.mod_le _ _) Hx.out)
      have hTl : ∀ j, j < 16 → T j = limb (x / y) j := fun j hj => by rw [← hE.1]; exact (limb_sumL HT.out hj).symm
      have gT2 : Row wr t 27 16 (limb (x / y)) := gT.congr hTl
      have hRt := fun w => right_any S HS.out s hs64 w
      rw [hE.2] at hRt
      unfold longV wideV at hRt
      have HRt := hid hRt
      clear hE hTl hRt gT
      go_wp2_with fail
      refine wp_region_upH (S := (fun wq => Row wq (w.heap.size + 1 + 1) 27 16 (fun _ => 0) ∧ Row wq (w.heap.size + 1 + 1 + 1) 27 16 (fun _ => 0) ∧ Row wq p 73 17 S ∧ Row wq t 27 16 (limb (x / y)) ∧ Below w.heap.size w wq)) (req := (fun j => j != 4 && j != 5)) (by kernel_rfl) (fun _ _ h hu => ⟨(h.1).up hu, (h.2.1).up hu, (h.2.2.1).up hu, (h.2.2.2.1).up hu, below_up (h.2.2.2.2) hu⟩) ⟨(by (repeat (first | assumption | ((with_reducible apply row_newc); (focus (first | rfl | (simp; done)))) | ((with_reducible apply row_newz); (focus (first | rfl | (simp; done)))) | (with_reducible apply row_same) | ((with_reducible apply row_else); (focus (first | (simp; done) | (simp; omega) | omega))) | (with_reducible apply row_alloc) | (with_reducible apply row_drew) | (with_reducible apply row_drewN) | ((with_reducible apply row_up); assumption)))), (by (repeat (first | assumption | ((with_reducible apply row_newc); (focus (first | rfl | (simp; done)))) | ((with_reducible apply row_newz); (focus (first | rfl | (simp; done)))) | (with_reducible apply row_same) | ((with_reducible apply row_else); (focus (first | (simp; done) | (simp; omega) | omega))) | (with_reducible apply row_alloc) | (with_reducible apply row_drew) | (with_reducible apply row_drewN) | ((with_reducible apply row_up); assumption)))), (by (repeat (first | assumption | ((with_reducible apply row_newc); (focus (first | rfl | (simp; done)))) | ((with_reducible apply row_newz); (focus (first | rfl | (simp; done)))) | (with_reducible apply row_same) | ((with_reducible apply row_else); (focus (first | (simp; done) | (simp; omega) | omega))) | (with_reducible apply row_alloc) | (with_reducible apply row_drew) | (with_reducible apply row_drewN) | ((with_reducible apply row_up); assumption)))), (by (repeat (first | assumption | ((with_reducible apply row_newc); (focus (first | rfl | (simp; done)))) | ((with_reducible apply row_newz); (focus (first | rfl | (simp; done)))) | (with_reducible apply row_same) | ((with_reducible apply row_else); (focus (first | (simp; done) | (simp; omega) | omega))) | (with_reducible apply row_alloc) | (with_reducible apply row_drew) | (with_reducible apply row_drewN) | ((with_reducible apply row_up); assumption)))), (by repeat (first | assumption | (with_reducible apply Up.of) | (with_reducible exact Below.refl _ _) | (with_reducible exact Up.refl _) | ((with_reducible apply bl_setRow); (focus (first | exact Nat.le_refl _ | (simp; done) | (simp; omega) | omega))) | (with_reducible apply below_drewN) | (with_reducible apply Below.drew) | ((with_reducible apply bl_alloc); (focus (first | exact Nat.le_refl _ | (simp; done) | (simp; omega) | omega))) | ((with_reducible apply bl_setCell); (focus (first | exact Nat.le_refl _ | (simp; done) | (simp; omega) | omega))) | ((with_reducible apply up_tr); assumption)))⟩ (fun wS hSS hSu => ?_)
      have ⟨hS1, hS2, hS3, hS4, hSB⟩ := hSS
      clear g3 g4 gp gq gT2 gB
      refine wpAnyU_take (i := 0) (d := (some 80)) (v := _) rfl rfl (by kernel_rfl) (fun _ _ _ h => h) hSu.out hSS (Or.inl ⟨by rfl, fun w' hSw => yu_value (run_ld undW infoW _ rfl _ rfl hSw.2.2.2.1)⟩) ?_
      try simp only [Act.put, pu1, pu2, pu3]
      refine wpAnyU_take (i := 1) (d := (some 81)) (v := _) rfl rfl (by kernel_rfl) (fun _ _ _ h => h) hSu.out hSS (Or.inl ⟨by rfl, fun w' hSw => yu_value (run_ld undL infoL _ rfl _ rfl hSw.2.2.1)⟩) ?_
      try simp only [Act.put, pu1, pu2, pu3]
      refine wpAnyU_pure (i := 2) (d := (some 82)) (v := ?_) rfl rfl (by kernel_rfl) (fun _ _ _ h => h) hSu.out (Or.inl ⟨by rfl, fun w' _ => yu_value ?_⟩) ?_
      rotate_left
      · (go_simp; (try exact rfl))
      try simp only [Act.put, pu1, pu2, pu3]
      refine wpAnyU_take (i := 3) (d := (some 83)) (v := _) rfl rfl (by kernel_rfl) (fun _ _ _ h => h) hSu.out hSS (Or.inl ⟨by rfl, fun w' hSw => yu_call ?_ (HRt.out _)⟩) ?_
      · go_simp
      try simp only [Act.put, pu1, pu2, pu3]
      refine wpAnyU_one (i := 4) rfl (by kernel_rfl) (by rfl) fun w4 hw4 => ?_
      refine wp_st_rowN infoW rfl _ _ rfl _ rfl rfl ((hS1.up hw4)) ?_
      refine ⟨fun h => by simp at h, ?_⟩
      try simp only [Act.put, pu1, pu2, pu3]
      refine wpAnyU_one (i := 5) rfl (by kernel_rfl) (by rfl) fun w5 hw5 => ?_
      refine wp_st_rowN infoW rfl _ _ rfl _ rfl rfl ((((hS2.up hw4).row_other _ (show w.heap.size + 1 + 1 + 1 ≠ w.heap.size + 1 + 1 by omega)).up hw5)) ?_
      refine ⟨fun h => by simp at h, ?_⟩
      try simp only [Act.put, pu1, pu2, pu3]
      refine wpAnyU_done (by kernel_rfl) (fun wF huE => ?_) _
      have ga : Row wF (w.heap.size + 1 + 1) 27 16 (limb (x / y)) := ((((hS1.up hw4).setRow _).up hw5).row_other (cells 16 (limb (x % y))) (show w.heap.size + 1 + 1 ≠ w.heap.size + 1 + 1 + 1 by omega)).up huE
      have gb : Row wF (w.heap.size + 1 + 1 + 1) 27 16 (limb (x % y)) := ((((hS2.up hw4).row_other (cells 16 (limb (x / y))) (show w.heap.size + 1 + 1 + 1 ≠ w.heap.size + 1 + 1 by omega)).up hw5).setRow _).up huE
      have gB := below_up (below_setRow (below_up (below_setRow (below_up hSB hw4) (show w.heap.size ≤ w.heap.size + 1 + 1 by omega) (cells 16 (limb (x / y)))) hw5) (show w.heap.size ≤ w.heap.size + 1 + 1 + 1 by omega) (cells 16 (limb (x % y)))) huE
      clear hS1 hS2 hS3 hS4 hSB hSS hw4 hw5 huE
      go_wp2_with fail
      exact bodyPost_ret (resCC rfl undW infoW _ _ _ rfl rfl ga gb) rfl ⟨rfl, gB⟩
    · obtain ⟨i, rfl⟩ : ∃ i, k = i + 1 := ⟨k - 1, by omega⟩
      rw [show ((i + 1 : Nat) : Int) - 1 = (i : Nat) by omega]
      have him : i + m < 17 := by omega
      have hm1 : m = m1 + 1 := by have := Hm1.out; omega
      have HM := hid hm1
      have him1 : i + m1 < 17 := by omega
      have e1 : IntKind.i64.wrap ((i : Int) + (m : Int)) = (i : Int) + (m : Int) := IntWalk.i64_in _ (by omega)
      have e2 : IntKind.i64.wrap ((i : Int) + (m : Int) - 1) = (i : Int) + (m1 : Int) := by rw [IntWalk.i64_in _ (by omega)]; omega
      have e3 : IntKind.i64.wrap ((m : Int) - 1) = (m1 : Int) := by rw [IntWalk.i64_in _ (by omega)]; omega
      have e4 : ((i : Int) + (m : Int)).toNat = i + m := by omega
      have e5 : ((i : Int) + (m1 : Int)).toNat = i + m1 := by omega
      have j1 : (i : Int) + (m : Int) < 17 := by omega
      have j2 : (0 : Int) ≤ (i : Int) + (m : Int) := by omega
      have j3 : (i : Int) + (m1 : Int) < 17 := by omega
      have j4 : (0 : Int) ≤ (i : Int) + (m1 : Int) := by omega
      have j5 : (m1 : Int) < 17 := by omega
      have e6 : IntKind.i64.wrap ((i : Int) + (m : Int) + 1) = (i : Int) + (m : Int) + 1 := IntWalk.i64_in _ (by omega)
      have hgs := fun w => guess_any (S (i + m)) (S (i + m1)) (limb P m1) (HS.out _ him) (HS.out _ him1) (limb_lt _ _) w
      have hgl := guess_lt (h := S (i + m)) (y := limb P m1) (HS.out _ him1)
      obtain ⟨g, hg⟩ : ∃ g, guessN (S (i + m)) (S (i + m1)) (limb P m1) = g := ⟨_, rfl⟩
      rw [hg] at hgs hgl
      have HG := hid hgs
      have Hg := hid hg
      have HGL := hid hgl
      clear hgs hg hgl hm1
      have c1 := gp.cell (i + m) him
      have c2 := gp.cell (i + m1) him1
      have c3 := gq.cell m1 (by omega)
      go_wp2_with fail
      refine wp_region_upH (S := (fun wq => Row wq (w.heap.size + 1 + 1) 27 16 (fun _ => 0) ∧ Row wq (w.heap.size + 1 + 1 + 1) 27 16 (fun _ => 0) ∧ Row wq p 73 17 S ∧ Row wq q 73 17 (limb P) ∧ Row wq t 27 16 T ∧ wq.cell? ⟨p, i + m, none⟩ = some (.int .u64 (S (i + m) : Nat)) ∧ wq.cell? ⟨p, i + m1, none⟩ = some (.int .u64 (S (i + m1) : Nat)) ∧ wq.cell? ⟨q, m1, none⟩ = some (.int .u64 (limb P m1 : Nat)) ∧ Below w.heap.size w wq)) (req := (fun _ => true)) (by kernel_rfl) (fun _ _ h hu => ⟨(h.1).up hu, (h.2.1).up hu, (h.2.2.1).up hu, (h.2.2.2.1).up hu, (h.2.2.2.2.1).up hu, hu.cell (h.2.2.2.2.2.1), hu.cell (h.2.2.2.2.2.2.1), hu.cell (h.2.2.2.2.2.2.2.1), below_up (h.2.2.2.2.2.2.2.2) hu⟩) ⟨(by (repeat (first | assumption | ((with_reducible apply row_newc); (focus (first | rfl | (simp; done)))) | ((with_reducible apply row_newz); (focus (first | rfl | (simp; done)))) | (with_reducible apply row_same) | ((with_reducible apply row_else); (focus (first | (simp; done) | (simp; omega) | omega))) | (with_reducible apply row_alloc) | (with_reducible apply row_drew) | (with_reducible apply row_drewN) | ((with_reducible apply row_up); assumption)))), (by (repeat (first | assumption | ((with_reducible apply row_newc); (focus (first | rfl | (simp; done)))) | ((with_reducible apply row_newz); (focus (first | rfl | (simp; done)))) | (with_reducible apply row_same) | ((with_reducible apply row_else); (focus (first | (simp; done) | (simp; omega) | omega))) | (with_reducible apply row_alloc) | (with_reducible apply row_drew) | (with_reducible apply row_drewN) | ((with_reducible apply row_up); assumption)))), (by (repeat (first | assumption | ((with_reducible apply row_newc); (focus (first | rfl | (simp; done)))) | ((with_reducible apply row_newz); (focus (first | rfl | (simp; done)))) | (with_reducible apply row_same) | ((with_reducible apply row_else); (focus (first | (simp; done) | (simp; omega) | omega))) | (with_reducible apply row_alloc) | (with_reducible apply row_drew) | (with_reducible apply row_drewN) | ((with_reducible apply row_up); assumption)))), (by (repeat (first | assumption | ((with_reducible apply row_newc); (focus (first | rfl | (simp; done)))) | ((with_reducible apply row_newz); (focus (first | rfl | (simp; done)))) | (with_reducible apply row_same) | ((with_reducible apply row_else); (focus (first | (simp; done) | (simp; omega) | omega))) | (with_reducible apply row_alloc) | (with_reducible apply row_drew) | (with_reducible apply row_drewN) | ((with_reducible apply row_up); assumption)))), (by (repeat (first | assumption | ((with_reducible apply row_newc); (focus (first | rfl | (simp; done)))) | ((with_reducible apply row_newz); (focus (first | rfl | (simp; done)))) | (with_reducible apply row_same) | ((with_reducible apply row_else); (focus (first | (simp; done) | (simp; omega) | omega))) | (with_reducible apply row_alloc) | (with_reducible apply row_drew) | (with_reducible apply row_drewN) | ((with_reducible apply row_up); assumption)))), (by first | assumption | (apply Blk.cell; (focus (repeat (first | assumption | ((with_reducible apply blk_new); (focus (first | rfl | (simp; done)))) | (with_reducible apply blk_alloc) | (with_reducible apply blk_drew) | (with_reducible apply blk_drewN) | ((with_reducible apply blk_up); assumption) | (with_reducible apply blk_same) | ((with_reducible apply blk_else); (focus (first | (simp; done) | (simp; omega) | omega)))))); exact rfl)), (by first | assumption | (apply Blk.cell; (focus (repeat (first | assumption | ((with_reducible apply blk_new); (focus (first | rfl | (simp; done)))) | (with_reducible apply blk_alloc) | (with_reducible apply blk_drew) | (with_reducible apply blk_drewN) | ((with_reducible apply blk_up); assumption) | (with_reducible apply blk_same) | ((with_reducible apply blk_else); (focus (first | (simp; done) | (simp; omega) | omega)))))); exact rfl)), (by first | assumption | (apply Blk.cell; (focus (repeat (first | assumption | ((with_reducible apply blk_new); (focus (first | rfl | (simp; done)))) | (with_reducible apply blk_alloc) | (with_reducible apply blk_drew) | (with_reducible apply blk_drewN) | ((with_reducible apply blk_up); assumption) | (with_reducible apply blk_same) | ((with_reducible apply blk_else); (focus (first | (simp; done) | (simp; omega) | omega)))))); exact rfl)), (by repeat (first | assumption | (with_reducible apply Up.of) | (with_reducible exact Below.refl _ _) | (with_reducible exact Up.refl _) | ((with_reducible apply bl_setRow); (focus (first | exact Nat.le_refl _ | (simp; done) | (simp; omega) | omega))) | (with_reducible apply below_drewN) | (with_reducible apply Below.drew) | ((with_reducible apply bl_alloc); (focus (first | exact Nat.le_refl _ | (simp; done) | (simp; omega) | omega))) | ((with_reducible apply bl_setCell); (focus (first | exact Nat.le_refl _ | (simp; done) | (simp; omega) | omega))) | ((with_reducible apply up_tr); assumption)))⟩ (fun wS hSS hSu => ?_)
      have ⟨hS1, hS2, hS3, hS4, hS5, hS6, hS7, hS8, hSB⟩ := hSS
      clear g3 g4 gp gq gT gB c1 c2 c3
      refine wpAnyU_pure (i := 0) (d := (some 38)) (v := ?_) rfl rfl (by kernel_rfl) (fun _ _ _ h => h) hSu.out (Or.inl ⟨by rfl, fun w' _ => yu_value ?_⟩) ?_
      rotate_left
      · (go_simp; (try exact rfl))
      try simp only [Act.put, pu1, pu2, pu3]
      refine wpAnyU_pure (i := 1) (d := (some 39)) (v := ?_) rfl rfl (by kernel_rfl) (fun _ _ _ h => h) hSu.out (Or.inl ⟨by rfl, fun w' _ => yu_value ?_⟩) ?_
      rotate_left
      · (go_simp; (try exact rfl))
      try simp only [Act.put, pu1, pu2, pu3]
      refine wpAnyU_pure (i := 2) (d := (some 40)) (v := ?_) rfl rfl (by kernel_rfl) (fun _ _ _ h => h) hSu.out (Or.inl ⟨by rfl, fun w' _ => yu_value ?_⟩) ?_
      rotate_left
      · (go_simp; (try exact rfl))
      try simp only [Act.put, pu1, pu2, pu3]
      refine wpAnyU_pure (i := 3) (d := (some 41)) (v := ?_) rfl rfl (by kernel_rfl) (fun _ _ _ h => h) hSu.out (Or.inl ⟨by rfl, fun w' _ => yu_value ?_⟩) ?_
      rotate_left
      · (go_simp; (try exact rfl))
      try simp only [Act.put, pu1, pu2, pu3]
      refine wpAnyU_take (i := 4) (d := (some 42)) (v := ?_) rfl rfl (by kernel_rfl) (fun _ _ _ h => h) hSu.out hSS (Or.inl ⟨by rfl, fun w' hSw => yu_value ?_⟩) ?_
      rotate_left
      · ((try dsimp only at hSw); (try obtain ⟨_, _, _, _, _, _, _, _, _⟩ := hSw); go_simp; (try exact rfl))
      try simp only [Act.put, pu1, pu2, pu3]
      refine wpAnyU_pure (i := 5) (d := (some 43)) (v := ?_) rfl rfl (by kernel_rfl) (fun _ _ _ h => h) hSu.out (Or.inl ⟨by rfl, fun w' _ => yu_value ?_⟩) ?_
      rotate_left
      · (go_simp; (try exact rfl))
      try simp only [Act.put, pu1, pu2, pu3]
      refine wpAnyU_pure (i := 6) (d := (some 44)) (v := ?_) rfl rfl (by kernel_rfl) (fun _ _ _ h => h) hSu.out (Or.inl ⟨by rfl, fun w' _ => yu_value ?_⟩) ?_
      rotate_left
      · (go_simp; (try exact rfl))
      try simp only [Act.put, pu1, pu2, pu3]
      refine wpAnyU_pure (i := 7) (d := (some 45)) (v := ?_) rfl rfl (by kernel_rfl) (fun _ _ _ h => h) hSu.out (Or.inl ⟨by rfl, fun w' _ => yu_value ?_⟩) ?_
      rotate_left
      · (go_simp; (try exact rfl))
      try simp only [Act.put, pu1, pu2, pu3]
      refine wpAnyU_pure (i := 8) (d := (some 46)) (v := ?_) rfl rfl (by kernel_rfl) (fun _ _ _ h => h) hSu.out (Or.inl ⟨by rfl, fun w' _ => yu_value ?_⟩) ?_
      rotate_left
      · (go_simp; (try exact rfl))
      try simp only [Act.put, pu1, pu2, pu3]
      refine wpAnyU_pure (i := 9) (d := (some 47)) (v := ?_) rfl rfl (by kernel_rfl) (fun _ _ _ h => h) hSu.out (Or.inl ⟨by rfl, fun w' _ => yu_value ?_⟩) ?_
      rotate_left
      · (go_simp; (try exact rfl))
      try simp only [Act.put, pu1, pu2, pu3]
      refine wpAnyU_take (i := 10) (d := (some 48)) (v := ?_) rfl rfl (by kernel_rfl) (fun _ _ _ h => h) hSu.out hSS (Or.inl ⟨by rfl, fun w' hSw => yu_value ?_⟩) ?_
      rotate_left
      · ((try dsimp only at hSw); (try obtain ⟨_, _, _, _, _, _, _, _, _⟩ := hSw); go_simp; (try exact rfl))
      try simp only [Act.put, pu1, pu2, pu3]
      refine wpAnyU_pure (i := 11) (d := (some 49)) (v := ?_) rfl rfl (by kernel_rfl) (fun _ _ _ h => h) hSu.out (Or.inl ⟨by rfl, fun w' _ => yu_value ?_⟩) ?_
      rotate_left
      · (go_simp; (try exact rfl))
      try simp only [Act.put, pu1, pu2, pu3]
      refine wpAnyU_pure (i := 12) (d := (some 50)) (v := ?_) rfl rfl (by kernel_rfl) (fun _ _ _ h => h) hSu.out (Or.inl ⟨by rfl, fun w' _ => yu_value ?_⟩) ?_
      rotate_left
      · (go_simp; (try exact rfl))
      try simp only [Act.put, pu1, pu2, pu3]
      refine wpAnyU_pure (i := 13) (d := (some 51)) (v := ?_) rfl rfl (by kernel_rfl) (fun _ _ _ h => h) hSu.out (Or.inl ⟨by rfl, fun w' _ => yu_value ?_⟩) ?_
      rotate_left
      · (go_simp; (try exact rfl))
      try simp only [Act.put, pu1, pu2, pu3]
      refine wpAnyU_take (i := 14) (d := (some 52)) (v := ?_) rfl rfl (by kernel_rfl) (fun _ _ _ h => h) hSu.out hSS (Or.inl ⟨by rfl, fun w' hSw => yu_value ?_⟩) ?_
      rotate_left
      · ((try dsimp only at hSw); (try obtain ⟨_, _, _, _, _, _, _, _, _⟩ := hSw); go_simp; (try exact rfl))
      try simp only [Act.put, pu1, pu2, pu3]
      refine wpAnyU_take (i := 15) (d := (some 53)) (v := _) rfl rfl (by kernel_rfl) (fun _ _ _ h => h) hSu.out hSS (Or.inl ⟨by rfl, fun w' hSw => yu_call ?_ (HG.out _)⟩) ?_
      · go_simp
      try simp only [Act.put, pu1, pu2, pu3]
      refine wpAnyU_pure (i := 16) (d := (some 13)) (v := ?_) rfl rfl (by kernel_rfl) (fun _ _ _ h => h) hSu.out (Or.inl ⟨by rfl, fun w' _ => yu_value ?_⟩) ?_
      rotate_left
      · (go_simp; (try exact rfl))
      try simp only [Act.put, pu1, pu2, pu3]
      refine wpAnyU_done (by kernel_rfl) (fun wF huE => ?_) _
      have g3 := hS1.up huE
      have g4 := hS2.up huE
      have gp := hS3.up huE
      have gq := hS4.up huE
      have gT := hS5.up huE
      have gB := below_up hSB huE
      clear hS1 hS2 hS3 hS4 hS5 hS6 hS7 hS8 hSB hSS huE
      go_wp2_with fail
      refine wp_region_upH (S := (fun wq => Row wq (w.heap.size + 1 + 1) 27 16 (fun _ => 0) ∧ Row wq (w.heap.size + 1 + 1 + 1) 27 16 (fun _ => 0) ∧ Row wq p 73 17 S ∧ Row wq q 73 17 (limb P) ∧ Row wq t 27 16 T ∧ Below w.heap.size w wq)) (req := (fun j => j != 9)) (by kernel_rfl) (fun _ _ h hu => ⟨(h.1).up hu, (h.2.1).up hu, (h.2.2.1).up hu, (h.2.2.2.1).up hu, (h.2.2.2.2.1).up hu, below_up (h.2.2.2.2.2) hu⟩) ⟨(by (repeat (first | assumption | ((with_reducible apply row_newc); (focus (first | rfl | (simp; done)))) | ((with_reducible apply row_newz); (focus (first | rfl | (simp; done)))) | (with_reducible apply row_same) | ((with_reducible apply row_else); (focus (first | (simp; done) | (simp; omega) | omega))) | (with_reducible apply row_alloc) | (with_reducible apply row_drew) | (with_reducible apply row_drewN) | ((with_reducible apply row_up); assumption)))), (by (repeat (first | assumption | ((with_reducible apply row_newc); (focus (first | rfl | (simp; done)))) | ((with_reducible apply row_newz); (focus (first | rfl | (simp; done)))) | (with_reducible apply row_same) | ((with_reducible apply row_else); (focus (first | (simp; done) | (simp; omega) | omega))) | (with_reducible apply row_alloc) | (with_reducible apply row_drew) | (with_reducible apply row_drewN) | ((with_reducible apply row_up); assumption)))), (by (repeat (first | assumption | ((with_reducible apply row_newc); (focus (first | rfl | (simp; done)))) | ((with_reducible apply row_newz); (focus (first | rfl | (simp; done)))) | (with_reducible apply row_same) | ((with_reducible apply row_else); (focus (first | (simp; done) | (simp; omega) | omega))) | (with_reducible apply row_alloc) | (with_reducible apply row_drew) | (with_reducible apply row_drewN) | ((with_reducible apply row_up); assumption)))), (by (repeat (first | assumption | ((with_reducible apply row_newc); (focus (first | rfl | (simp; done)))) | ((with_reducible apply row_newz); (focus (first | rfl | (simp; done)))) | (with_reducible apply row_same) | ((with_reducible apply row_else); (focus (first | (simp; done) | (simp; omega) | omega))) | (with_reducible apply row_alloc) | (with_reducible apply row_drew) | (with_reducible apply row_drewN) | ((with_reducible apply row_up); assumption)))), (by (repeat (first | assumption | ((with_reducible apply row_newc); (focus (first | rfl | (simp; done)))) | ((with_reducible apply row_newz); (focus (first | rfl | (simp; done)))) | (with_reducible apply row_same) | ((with_reducible apply row_else); (focus (first | (simp; done) | (simp; omega) | omega))) | (with_reducible apply row_alloc) | (with_reducible apply row_drew) | (with_reducible apply row_drewN) | ((with_reducible apply row_up); assumption)))), (by repeat (first | assumption | (with_reducible apply Up.of) | (with_reducible exact Below.refl _ _) | (with_reducible exact Up.refl _) | ((with_reducible apply bl_setRow); (focus (first | exact Nat.le_refl _ | (simp; done) | (simp; omega) | omega))) | (with_reducible apply below_drewN) | (with_reducible apply Below.drew) | ((with_reducible apply bl_alloc); (focus (first | exact Nat.le_refl _ | (simp; done) | (simp; omega) | omega))) | ((with_reducible apply bl_setCell); (focus (first | exact Nat.le_refl _ | (simp; done) | (simp; omega) | omega))) | ((with_reducible apply up_tr); assumption)))⟩ (fun wS hSS hSu => ?_)
      have ⟨hS1, hS2, hS3, hS4, hS5, hSB⟩ := hSS
      clear g3 g4 gp gq gT gB
      have sl1 := fun w' => slice_win (p := p) him w'
      have sl2 := fun w' => slice_low (q := q) (m := m) (by omega) w'
      refine wpAnyU_pure (i := 0) (d := (some 54)) (v := ?_) rfl rfl (by kernel_rfl) (fun _ _ _ h => h) hSu.out (Or.inl ⟨by rfl, fun w' _ => yu_value ?_⟩) ?_
      rotate_left
      · (go_simp; (try exact rfl))
      try simp only [Act.put, pu1, pu2, pu3]
      refine wpAnyU_pure (i := 1) (d := (some 55)) (v := ?_) rfl rfl (by kernel_rfl) (fun _ _ _ h => h) hSu.out (Or.inl ⟨by rfl, fun w' _ => yu_value ?_⟩) ?_
      rotate_left
      · (go_simp; (try exact rfl))
      try simp only [Act.put, pu1, pu2, pu3]
      refine wpAnyU_pure (i := 2) (d := (some 56)) (v := ?_) rfl rfl (by kernel_rfl) (fun _ _ _ h => h) hSu.out (Or.inl ⟨by rfl, fun w' _ => yu_value ?_⟩) ?_
      rotate_left
      · (go_simp; (try exact rfl))
      try simp only [Act.put, pu1, pu2, pu3]
      refine wpAnyU_pure (i := 3) (d := (some 57)) (v := ?_) rfl rfl (by kernel_rfl) (fun _ _ _ h => h) hSu.out (Or.inl ⟨by rfl, fun w' _ => yu_value ?_⟩) ?_
      rotate_left
      · (go_simp; (try exact rfl))
      try simp only [Act.put, pu1, pu2, pu3]
      refine wpAnyU_pure (i := 4) (d := (some 58)) (v := ?_) rfl rfl (by kernel_rfl) (fun _ _ _ h => h) hSu.out (Or.inl ⟨by rfl, fun w' _ => yu_value ?_⟩) ?_
      rotate_left
      · (go_simp; (try exact rfl))
      try simp only [Act.put, pu1, pu2, pu3]
      refine wpAnyU_pure (i := 5) (d := (some 59)) (v := ?_) rfl rfl (by kernel_rfl) (fun _ _ _ h => h) hSu.out (Or.inl ⟨by rfl, fun w' _ => yu_value ?_⟩) ?_
      rotate_left
      · (go_simp; (try exact rfl))
      try simp only [Act.put, pu1, pu2, pu3]
      refine wpAnyU_pure (i := 6) (d := (some 60)) (v := ?_) rfl rfl (by kernel_rfl) (fun _ _ _ h => h) hSu.out (Or.inl ⟨by rfl, fun w' _ => yu_value ?_⟩) ?_
      rotate_left
      · (go_simp; (try exact rfl))
      try simp only [Act.put, pu1, pu2, pu3]
      refine wpAnyU_pure (i := 7) (d := (some 61)) (v := ?_) rfl rfl (by kernel_rfl) (fun _ _ _ h => h) hSu.out (Or.inl ⟨by rfl, fun w' _ => yu_value ?_⟩) ?_
      rotate_left
      · (go_simp; (try exact rfl))
      try simp only [Act.put, pu1, pu2, pu3]
      refine wpAnyU_pure (i := 8) (d := (some 62)) (v := ?_) rfl rfl (by kernel_rfl) (fun _ _ _ h => h) hSu.out (Or.inl ⟨by rfl, fun w' _ => yu_value ?_⟩) ?_
      rotate_left
      · (go_simp; (try exact rfl))
      try simp only [Act.put, pu1, pu2, pu3]
      refine wpAnyU_callN (i := 9) (d := some 63) (f := 61) (args := #[.slice (some ⟨p, i, none⟩) (m + 1) (17 - i), .slice (some ⟨q, 0, none⟩) m 17, .int .u64 (g : Nat)]) (R := fun w' v w'' => ∃ (S' : Nat → Nat) (b : Nat), v = .bool (decide (b ≠ 0)) ∧ b ≤ 1 ∧ sumL (fun j => S' (i + j)) (m + 1) + g * P = sumL (fun j => S (i + j)) (m + 1) + b * bp (m + 1) ∧ (∀ j, j < i ∨ i + m < j → S' j = S j) ∧ (∀ j, j < 17 → S' j < 18446744073709551616) ∧ Row w'' p 73 17 S' ∧ Near p w' w'') rfl rfl (by kernel_rfl) (by rfl) rfl (fun w' => by go_simp) (fun w' hw' => ?_) (fun w1 v w2 hw1 hR1 => ?_)
      · refine (take_off p i m q (17 - i) 17 g S (limb P) HS.out (fun j _ => limb_lt _ j) hpq him HGL.out w' (hS3.up hw') (hS4.up hw')).mono ?_
        rintro e w'' ⟨S', b, rfl, h1, h2, h3, h4, h5, h6⟩
        rw [HPm.out] at h2
        exact ⟨_, rfl, S', b, rfl, h1, h2, h3, h4, h5, h6⟩
      try simp only [Act.put, pu1, pu2, pu3]
      obtain ⟨S1, b, rfl, hb, he, ho, hl, gp, hN⟩ := hR1
      have He := hid he
      have Ho := hid ho
      have Hl := hid hl
      clear he ho hl
      refine wpAnyU_pure (i := 10) (d := (some 14)) (v := ?_) rfl rfl (by kernel_rfl) (fun _ _ _ h => h) hSu.out (Or.inl ⟨by rfl, fun w' _ => yu_value ?_⟩) ?_
      rotate_left
      · (go_simp; (try exact rfl))
      try simp only [Act.put, pu1, pu2, pu3]
      refine wpAnyU_done (by kernel_rfl) (fun wF huE => ?_) _
      have l1 := (hSB.size : w.heap.size ≤ wS.heap.size)
      have l2 := hw1.size
      have g3 := (hN.row (show w.heap.size + 1 + 1 ≠ p by omega) (hS1.up hw1)).up huE
      have g4 := (hN.row (show w.heap.size + 1 + 1 + 1 ≠ p by omega) (hS2.up hw1)).up huE
      have gq := (hN.row (Ne.symm hpq) (hS4.up hw1)).up huE
      have gT := (hN.row (show t ≠ p by omega) (hS5.up hw1)).up huE
      have gB := below_up (hN.below (show w.heap.size ≤ p by omega) (below_up hSB hw1) (by omega)) huE
      replace gp := gp.up huE
      clear hS1 hS2 hS3 hS4 hS5 hSB hSS huE hw1 hN l1 l2
      obtain ⟨W, hW⟩ : ∃ W, sumL (fun j => S (i + j)) (m + 1) = W := ⟨_, rfl⟩
      have HW := hid hW
      have hq0 : W / P ≤ g := by
        have h1 := HR.out
        have h2 : m = m1 + 1 := HM.out
        have h3 : W < P * 18446744073709551616 := by
          have h4 : W * bp i ≤ sumL S 17 := by
            obtain ⟨d, hd⟩ : ∃ d, 17 = i + (m + 1) + d := ⟨17 - (i + (m + 1)), by omega⟩
            rw [hd, sumL_split, sumL_split, hW]
            omega
          rw [bp_succ] at h1
          have h5 : W * bp i < P * 18446744073709551616 * bp i := by
            have e : P * 18446744073709551616 * bp i = P * (bp i * 18446744073709551616) := by grind
            omega
          exact Nat.lt_of_mul_lt_mul_right h5
        have h6 := guess_ge (F := fun j => S (i + j)) (V := limb P) (m := m1) (P := P) (W := W) (fun j hj => HS.out _ (by omega)) (by show sumL (fun j => S (i + j)) (m1 + 1 + 1) = W; rw [← h2]; exact hW) (by rw [← h2]; exact HPm.out) HP0.out h3
        rw [← h2, Hg.out] at h6
        exact h6
      have he := He.out
      rw [hW] at he
      clear He
      have He := hid he
      have Hq0 := hid hq0
      clear hW he hq0
      go_wp2_with fail
      go_loopw [13, 14] (fun tg tv wr => ∃ (g b : Nat) (S1 : Nat → Nat), tg = .int .u64 (g : Nat) ∧ tv = .bool (!decide (b = 0)) ∧ b ≤ 1 ∧ g < 18446744073709551616 ∧ W / P ≤ g ∧ sumL (fun j => S1 (i + j)) (m + 1) + g * P = W + b * bp (m + 1) ∧ (∀ j, j < i ∨ i + m < j → S1 j = S j) ∧ (∀ j, j < 17 → S1 j < 18446744073709551616) ∧
          Row wr (w.heap.size + 1 + 1) 27 16 (fun _ => 0) ∧ Row wr (w.heap.size + 1 + 1 + 1) 27 16 (fun _ => 0) ∧ Row wr p 73 17 S1 ∧ Row wr q 73 17 (limb P) ∧ Row wr t 27 16 T ∧ Below w.heap.size w wr)
        (fun tg _ _ => (intOf tg).toNat)
      case atStart => exact ⟨g, b, S1, rfl, rfl, hb, HGL.out, Hq0.out, He.out, Ho.out, Hl.out, g3, g4, gp, gq, gT, gB⟩
      case round =>
        clear g3 g4 gp gq gT gB He Ho Hl Hq0 hb Hg HGL HG S1
        obtain ⟨g, b, S1, rfl, rfl, hb, hgl, hq0, he, ho, hl, g3, g4, gp, gq, gT, gB⟩ := hrel
        have He := hid he
        have Ho := hid ho
        have Hl := hid hl
        have Hq0 := hid hq0
        have Hgl := hid hgl
        clear he ho hl hq0 hgl
        rcases (show b = 0 ∨ b = 1 by omega) with rfl | rfl
        · have he := He.out
          rw [Nat.zero_mul, Nat.add_zero] at he
          obtain ⟨hlt, hgq⟩ := round_end he Hq0.out HP0.out
          have hR2 := HR.out
          have hR3 : sumL S 17 < bp (i + m + 1) := by
            have h1 := HP1.out
            have h2 : P * bp (i + 1) ≤ bp m * bp (i + 1) := Nat.mul_le_mul_right _ (Nat.le_of_lt h1)
            rw [← bp_add, show m + (i + 1) = i + m + 1 by omega] at h2
            omega
          obtain ⟨hX1, hX3⟩ := long_step him (by omega) HS.out HX.out (HT0.out i (by omega)) hR3 HW.out rfl Ho.out he hlt
          have HX1 := hid hX1
          have HX3 := hid hX3
          have e7 : IntKind.i64.wrap ((i : Int) - 1) = (i : Int) - 1 := IntWalk.i64_in _ (by omega)
          have hi16 : (i : Int) < 16 := by omega
          have hct := gT.cell i (by omega)
          have hft := gT.frozen i
          have gT1 := gT.set i g
          have lt1 := lt.1
          have gp1 := gp.other ⟨t, i, none⟩ (.int .u64 (g : Nat)) (show p ≠ t by omega)
          have gq1 := gq.other ⟨t, i, none⟩ (.int .u64 (g : Nat)) (show q ≠ t by omega)
          have g31 := g3.other ⟨t, i, none⟩ (.int .u64 (g : Nat)) (show w.heap.size + 1 + 1 ≠ t by omega)
          have g41 := g4.other ⟨t, i, none⟩ (.int .u64 (g : Nat)) (show w.heap.size + 1 + 1 + 1 ≠ t by omega)
          have gB1 := gB.setCell (p := ⟨t, i, none⟩) (show w.heap.size ≤ t by omega) (.int .u64 (g : Nat))
          clear he hlt hgq hR2 hR3 hX1 hX3 g3 g4 gp gq gT gB
          go_wp2_with fail
          go_roundw
          case rel => exact ⟨i, S1, upd T i g, by omega, rfl, Hl.out, upd_lt HT.out Hgl.out, fun j hj => by rw [upd_other _ _ _ (by omega)]; exact HT0.out j (by omega), HX1.out, HX3.out, g31, g41, gp1, gq1, gT1, gB1⟩
          case measure => simp [intOf] <;> omega
        · have he := He.out
          rw [Nat.one_mul] at he
          have hW1 := sumL_lt (f := fun j => S1 (i + j)) (k := m + 1) fun j hj => Hl.out _ (by omega)
          obtain ⟨hg1, hq1⟩ := round_more he hW1 HP0.out
          obtain ⟨G, hG⟩ : ∃ G, g - 1 = G := ⟨_, rfl⟩
          rw [hG] at hq1
          have HGg := hid hG
          have HGq := hid hq1
          have HG1 := hid hg1
          have hgl := Hgl.out
          have eg : IntKind.u64.wrap ((g : Int) - 1) = (G : Nat) := by rw [IntKind.wrap_u64]; omega
          clear he hW1 hg1 hq1 hG hgl
          go_wp2_with fail
          refine wp_region_upH (S := (fun wq => Row wq (w.heap.size + 1 + 1) 27 16 (fun _ => 0) ∧ Row wq (w.heap.size + 1 + 1 + 1) 27 16 (fun _ => 0) ∧ Row wq p 73 17 S1 ∧ Row wq q 73 17 (limb P) ∧ Row wq t 27 16 T ∧ Below w.heap.size w wq)) (req := (fun j => j != 8)) (by kernel_rfl) (fun _ _ h hu => ⟨(h.1).up hu, (h.2.1).up hu, (h.2.2.1).up hu, (h.2.2.2.1).up hu, (h.2.2.2.2.1).up hu, below_up (h.2.2.2.2.2) hu⟩) ⟨(by (repeat (first | assumption | ((with_reducible apply row_newc); (focus (first | rfl | (simp; done)))) | ((with_reducible apply row_newz); (focus (first | rfl | (simp; done)))) | (with_reducible apply row_same) | ((with_reducible apply row_else); (focus (first | (simp; done) | (simp; omega) | omega))) | (with_reducible apply row_alloc) | (with_reducible apply row_drew) | (with_reducible apply row_drewN) | ((with_reducible apply row_up); assumption)))), (by (repeat (first | assumption | ((with_reducible apply row_newc); (focus (first | rfl | (simp; done)))) | ((with_reducible apply row_newz); (focus (first | rfl | (simp; done)))) | (with_reducible apply row_same) | ((with_reducible apply row_else); (focus (first | (simp; done) | (simp; omega) | omega))) | (with_reducible apply row_alloc) | (with_reducible apply row_drew) | (with_reducible apply row_drewN) | ((with_reducible apply row_up); assumption)))), (by (repeat (first | assumption | ((with_reducible apply row_newc); (focus (first | rfl | (simp; done)))) | ((with_reducible apply row_newz); (focus (first | rfl | (simp; done)))) | (with_reducible apply row_same) | ((with_reducible apply row_else); (focus (first | (simp; done) | (simp; omega) | omega))) | (with_reducible apply row_alloc) | (with_reducible apply row_drew) | (with_reducible apply row_drewN) | ((with_reducible apply row_up); assumption)))), (by (repeat (first | assumption | ((with_reducible apply row_newc); (focus (first | rfl | (simp; done)))) | ((with_reducible apply row_newz); (focus (first | rfl | (simp; done)))) | (with_reducible apply row_same) | ((with_reducible apply row_else); (focus (first | (simp; done) | (simp; omega) | omega))) | (with_reducible apply row_alloc) | (with_reducible apply row_drew) | (with_reducible apply row_drewN) | ((with_reducible apply row_up); assumption)))), (by (repeat (first | assumption | ((with_reducible apply row_newc); (focus (first | rfl | (simp; done)))) | ((with_reducible apply row_newz); (focus (first | rfl | (simp; done)))) | (with_reducible apply row_same) | ((with_reducible apply row_else); (focus (first | (simp; done) | (simp; omega) | omega))) | (with_reducible apply row_alloc) | (with_reducible apply row_drew) | (with_reducible apply row_drewN) | ((with_reducible apply row_up); assumption)))), (by repeat (first | assumption | (with_reducible apply Up.of) | (with_reducible exact Below.refl _ _) | (with_reducible exact Up.refl _) | ((with_reducible apply bl_setRow); (focus (first | exact Nat.le_refl _ | (simp; done) | (simp; omega) | omega))) | (with_reducible apply below_drewN) | (with_reducible apply Below.drew) | ((with_reducible apply bl_alloc); (focus (first | exact Nat.le_refl _ | (simp; done) | (simp; omega) | omega))) | ((with_reducible apply bl_setCell); (focus (first | exact Nat.le_refl _ | (simp; done) | (simp; omega) | omega))) | ((with_reducible apply up_tr); assumption)))⟩ (fun wS hSS hSu => ?_)
          have ⟨hS1, hS2, hS3, hS4, hS5, hSB⟩ := hSS
          clear g3 g4 gp gq gT gB
          refine wpAnyU_pure (i := 0) (d := (some 67)) (v := ?_) rfl rfl (by kernel_rfl) (fun _ _ _ h => h) hSu.out (Or.inl ⟨by rfl, fun w' _ => yu_value ?_⟩) ?_
          rotate_left
          · (go_simp; (try exact rfl))
          try simp only [Act.put, pu1, pu2, pu3]
          refine wpAnyU_pure (i := 1) (d := (some 68)) (v := ?_) rfl rfl (by kernel_rfl) (fun _ _ _ h => h) hSu.out (Or.inl ⟨by rfl, fun w' _ => yu_value ?_⟩) ?_
          rotate_left
          · (go_simp; (try exact rfl))
          try simp only [Act.put, pu1, pu2, pu3]
          refine wpAnyU_pure (i := 2) (d := (some 69)) (v := ?_) rfl rfl (by kernel_rfl) (fun _ _ _ h => h) hSu.out (Or.inl ⟨by rfl, fun w' _ => yu_value ?_⟩) ?_
          rotate_left
          · (go_simp; (try exact rfl))
          try simp only [Act.put, pu1, pu2, pu3]
          refine wpAnyU_pure (i := 3) (d := (some 70)) (v := ?_) rfl rfl (by kernel_rfl) (fun _ _ _ h => h) hSu.out (Or.inl ⟨by rfl, fun w' _ => yu_value ?_⟩) ?_
          rotate_left
          · (go_simp; (try exact rfl))
          try simp only [Act.put, pu1, pu2, pu3]
          refine wpAnyU_pure (i := 4) (d := (some 71)) (v := ?_) rfl rfl (by kernel_rfl) (fun _ _ _ h => h) hSu.out (Or.inl ⟨by rfl, fun w' _ => yu_value ?_⟩) ?_
          rotate_left
          · (go_simp; (try exact rfl))
          try simp only [Act.put, pu1, pu2, pu3]
          refine wpAnyU_pure (i := 5) (d := (some 72)) (v := ?_) rfl rfl (by kernel_rfl) (fun _ _ _ h => h) hSu.out (Or.inl ⟨by rfl, fun w' _ => yu_value ?_⟩) ?_
          rotate_left
          · (go_simp; (try exact rfl))
          try simp only [Act.put, pu1, pu2, pu3]
          refine wpAnyU_pure (i := 6) (d := (some 73)) (v := ?_) rfl rfl (by kernel_rfl) (fun _ _ _ h => h) hSu.out (Or.inl ⟨by rfl, fun w' _ => yu_value ?_⟩) ?_
          rotate_left
          · (go_simp; (try exact rfl))
          try simp only [Act.put, pu1, pu2, pu3]
          refine wpAnyU_pure (i := 7) (d := (some 74)) (v := ?_) rfl rfl (by kernel_rfl) (fun _ _ _ h => h) hSu.out (Or.inl ⟨by rfl, fun w' _ => yu_value ?_⟩) ?_
          rotate_left
          · (go_simp; (try exact rfl))
          try simp only [Act.put, pu1, pu2, pu3]
          refine wpAnyU_callN (i := 8) (d := some 75) (f := 62) (args := #[.slice (some ⟨p, i, none⟩) (m + 1) (17 - i), .slice (some ⟨q, 0, none⟩) m 17]) (R := fun w' v w'' => ∃ (S' : Nat → Nat) (b : Nat), v = .bool (decide (b ≠ 0)) ∧ b ≤ 1 ∧ sumL (fun j => S' (i + j)) (m + 1) + b * bp (m + 1) = sumL (fun j => S1 (i + j)) (m + 1) + P ∧ (∀ j, j < i ∨ i + m < j → S' j = S1 j) ∧ (∀ j, j < 17 → S' j < 18446744073709551616) ∧ Row w'' p 73 17 S' ∧ Near p w' w'') rfl rfl (by kernel_rfl) (by rfl) rfl (fun w' => by go_simp) (fun w' hw' => ?_) (fun w1 v w2 hw1 hR1 => ?_)
          · refine (put_back p i m q (17 - i) 17 S1 (limb P) Hl.out (fun j _ => limb_lt _ j) hpq him w' (hS3.up hw') (hS4.up hw')).mono ?_
            rintro e w'' ⟨S', b, rfl, h1, h2, h3, h4, h5, h6⟩
            rw [HPm.out] at h2
            exact ⟨_, rfl, S', b, rfl, h1, h2, h3, h4, h5, h6⟩
          try simp only [Act.put, pu1, pu2, pu3]
          obtain ⟨S2, b', rfl, hb', he2, ho2, hl2, gp, hN⟩ := hR1
          have Hn2 := hid (round_next (b := b') (by have := He.out; rw [Nat.one_mul] at this; exact this) he2 HG1.out hb')
          have Ho2 := hid ho2
          have Hl2 := hid hl2
          clear he2 ho2 hl2
          rcases (show b' = 0 ∨ b' = 1 by omega) with rfl | rfl
          · skip
            refine wpAnyU_pure (i := 9) (d := (some 76)) (v := ?_) rfl rfl (by kernel_rfl) (fun _ _ _ h => h) hSu.out (Or.inl ⟨by rfl, fun w' _ => yu_value ?_⟩) ?_
            rotate_left
            · (go_simp; (try exact rfl))
            try simp only [Act.put, pu1, pu2, pu3]
            refine wpAnyU_pure (i := 10) (d := (some 14)) (v := ?_) rfl rfl (by kernel_rfl) (fun _ _ _ h => h) hSu.out (Or.inl ⟨by rfl, fun w' _ => yu_value ?_⟩) ?_
            rotate_left
            · (go_simp; (try exact rfl))
            try simp only [Act.put, pu1, pu2, pu3]
            refine wpAnyU_done (by kernel_rfl) (fun wF huE => ?_) _
            have l1 := (hSB.size : w.heap.size ≤ wS.heap.size)
            have l2 := hw1.size
            have g3 := (hN.row (show w.heap.size + 1 + 1 ≠ p by omega) (hS1.up hw1)).up huE
            have g4 := (hN.row (show w.heap.size + 1 + 1 + 1 ≠ p by omega) (hS2.up hw1)).up huE
            have gq := (hN.row (Ne.symm hpq) (hS4.up hw1)).up huE
            have gT := (hN.row (show t ≠ p by omega) (hS5.up hw1)).up huE
            have gB := below_up (hN.below (show w.heap.size ≤ p by omega) (below_up hSB hw1) (by omega)) huE
            replace gp := gp.up huE
            clear hS1 hS2 hS3 hS4 hS5 hSB hSS huE hw1 hN l1 l2 hb'
            go_wp2_with fail
            go_roundw
            case rel =>
              have h1 := Hn2.out
              rw [HGg.out] at h1
              exact ⟨G, 1, S2, rfl, rfl, by omega, by have := Hgl.out; have := HGg.out; omega, HGq.out, h1, fun j hj => (Ho2.out j hj).trans (Ho.out j hj), Hl2.out, g3, g4, gp, gq, gT, gB⟩
            case measure => have := HGg.out; have := HG1.out; simp [intOf] <;> omega
          · skip
            refine wpAnyU_pure (i := 9) (d := (some 76)) (v := ?_) rfl rfl (by kernel_rfl) (fun _ _ _ h => h) hSu.out (Or.inl ⟨by rfl, fun w' _ => yu_value ?_⟩) ?_
            rotate_left
            · (go_simp; (try exact rfl))
            try simp only [Act.put, pu1, pu2, pu3]
            refine wpAnyU_pure (i := 10) (d := (some 14)) (v := ?_) rfl rfl (by kernel_rfl) (fun _ _ _ h => h) hSu.out (Or.inl ⟨by rfl, fun w' _ => yu_value ?_⟩) ?_
            rotate_left
            · (go_simp; (try exact rfl))
            try simp only [Act.put, pu1, pu2, pu3]
            refine wpAnyU_done (by kernel_rfl) (fun wF huE => ?_) _
            have l1 := (hSB.size : w.heap.size ≤ wS.heap.size)
            have l2 := hw1.size
            have g3 := (hN.row (show w.heap.size + 1 + 1 ≠ p by omega) (hS1.up hw1)).up huE
            have g4 := (hN.row (show w.heap.size + 1 + 1 + 1 ≠ p by omega) (hS2.up hw1)).up huE
            have gq := (hN.row (Ne.symm hpq) (hS4.up hw1)).up huE
            have gT := (hN.row (show t ≠ p by omega) (hS5.up hw1)).up huE
            have gB := below_up (hN.below (show w.heap.size ≤ p by omega) (below_up hSB hw1) (by omega)) huE
            replace gp := gp.up huE
            clear hS1 hS2 hS3 hS4 hS5 hSB hSS huE hw1 hN l1 l2 hb'
            go_wp2_with fail
            go_roundw
            case rel =>
              have h1 := Hn2.out
              rw [HGg.out] at h1
              exact ⟨G, 0, S2, rfl, rfl, by omega, by have := Hgl.out; have := HGg.out; omega, HGq.out, h1, fun j hj => (Ho2.out j hj).trans (Ho.out j hj), Hl2.out, g3, g4, gp, gq, gT, gB⟩
            case measure => have := HGg.out; have := HG1.out; simp [intOf] <;> omega
end Go.Proofs.Ytbogbdokllmanaa
/-
  WideBack: a quotient times its divisor, and its rest, is what was divided, the rest the smaller one.
-/
namespace Go.Proofs.Ytbogbdokllmanaa
open Go Go.RowKit
set_option maxRecDepth 100000

set_option maxHeartbeats 1000000 in
theorem divide_many (x y : Nat) (hx : x < bp 16) (hy : y < bp 16) (h : ¬ x < y) (h1 : 2 ≤ lenL (limb y) 16) (w : World) :
    Calls Try.prog 29 #[wideV x, wideV y] w fun e w' => e = .returned (divV x y) ∧ Up w w' := by
  have hO := fun w => order_any x y hx hy w
  have ho := ordZ_ge h
  have hL := fun w => length_any y w
  have hD := fun w => divide_long x y hx hy (by omega) h1 w
  obtain ⟨n, hn⟩ : ∃ n, lenL (limb y) 16 = n := ⟨_, rfl⟩
  rw [hn] at hL h1
  have hn1 : ((n : Int) == 1) = false := by simp; omega
  have HO := hid hO
  have HL := hid hL
  unfold divV at *
  clear hO hL h hn
  generalize ordZ x y = oz at *
  have hoz : ¬ oz < 0 := by omega
  obtain ⟨q, eq⟩ : ∃ q, x / y = q := ⟨_, rfl⟩
  obtain ⟨r, er⟩ : ∃ r, x % y = r := ⟨_, rfl⟩
  rw [eq, er] at hD ⊢
  clear eq er
  unfold wideV at *
  have HD := hid hD
  clear hD
  go_enter Try.func29, Try.ntmps29
  go_wp2_with (first | ((with_reducible apply ld_rowP undW infoW); exact rfl; exact rfl; focus (repeat (first | assumption | ((with_reducible apply row_newc); (focus (first | rfl | (simp; done)))) | ((with_reducible apply row_newz); (focus (first | rfl | (simp; done)))) | (with_reducible apply row_same) | ((with_reducible apply row_else); (focus (first | (simp; done) | (simp; omega) | omega))) | (with_reducible apply row_alloc) | (with_reducible apply row_drew) | (with_reducible apply row_drewN) | ((with_reducible apply row_up); assumption)))) | ((with_reducible apply st_rowP infoW); exact rfl; exact rfl; focus (repeat (first | assumption | ((with_reducible apply row_newc); (focus (first | rfl | (simp; done)))) | ((with_reducible apply row_newz); (focus (first | rfl | (simp; done)))) | (with_reducible apply row_same) | ((with_reducible apply row_else); (focus (first | (simp; done) | (simp; omega) | omega))) | (with_reducible apply row_alloc) | (with_reducible apply row_drew) | (with_reducible apply row_drewN) | ((with_reducible apply row_up); assumption)))) | ((with_reducible apply st_rowZ infoW); exact rfl; exact rfl; focus (repeat (first | assumption | ((with_reducible apply row_newc); (focus (first | rfl | (simp; done)))) | ((with_reducible apply row_newz); (focus (first | rfl | (simp; done)))) | (with_reducible apply row_same) | ((with_reducible apply row_else); (focus (first | (simp; done) | (simp; omega) | omega))) | (with_reducible apply row_alloc) | (with_reducible apply row_drew) | (with_reducible apply row_drewN) | ((with_reducible apply row_up); assumption)))) | (go_at_call 45; refine (HO.out _).mono ?_; rintro e w' ⟨rfl, hu⟩) | (go_at_call 46; refine (HL.out _).mono ?_; rintro e w' ⟨rfl, hu⟩) | (go_at_call 48; refine (HD.out _).mono ?_; rintro e w' ⟨rfl, hu⟩))
  exact bodyPost_ret (resCC rfl undW infoW _ _ _ rfl rfl (by (repeat (first | assumption | ((with_reducible apply row_newc); (focus (first | rfl | (simp; done)))) | ((with_reducible apply row_newz); (focus (first | rfl | (simp; done)))) | (with_reducible apply row_same) | ((with_reducible apply row_else); (focus (first | (simp; done) | (simp; omega) | omega))) | (with_reducible apply row_alloc) | (with_reducible apply row_drew) | (with_reducible apply row_drewN) | ((with_reducible apply row_up); assumption)))) (by (repeat (first | assumption | ((with_reducible apply row_newc); (focus (first | rfl | (simp; done)))) | ((with_reducible apply row_newz); (focus (first | rfl | (simp; done)))) | (with_reducible apply row_same) | ((with_reducible apply row_else); (focus (first | (simp; done) | (simp; omega) | omega))) | (with_reducible apply row_alloc) | (with_reducible apply row_drew) | (with_reducible apply row_drewN) | ((with_reducible apply row_up); assumption))))) rfl ⟨rfl, (by repeat (first | assumption | (with_reducible apply Up.of) | (with_reducible exact Below.refl _ _) | (with_reducible exact Up.refl _) | ((with_reducible apply bl_setRow); (focus (first | exact Nat.le_refl _ | (simp; done) | (simp; omega) | omega))) | (with_reducible apply below_drewN) | (with_reducible apply Below.drew) | ((with_reducible apply bl_alloc); (focus (first | exact Nat.le_refl _ | (simp; done) | (simp; omega) | omega))) | ((with_reducible apply bl_setCell); (focus (first | exact Nat.le_refl _ | (simp; done) | (simp; omega) | omega))) | ((with_reducible apply up_tr); assumption)))⟩
theorem divide_any {x y : Nat} (hx : x < bp 16) (hy : y < bp 16) (h0 : y ≠ 0) (w : World) :
    Calls Try.prog 29 #[wideV x, wideV y] w fun e w' => e = .returned (divV x y) ∧ Up w w' := by
  by_cases h : x < y
  · exact divide_less x y hx hy h w
  · have h1 : lenL (limb y) 16 ≠ 0 := fun e => by
      have := (lenL_zero_iff (limb y) 16).1 e
      rw [sumL_limb, Nat.mod_eq_of_lt hy] at this
      exact h0 this
    by_cases h2 : lenL (limb y) 16 = 1
    · exact divide_one x y hx hy h h2 w
    · exact divide_many x y hx hy h (by omega) w
theorem div_any {a b : Int} (ha : InR a) (hb' : InR b) (w : World) :
    Calls Try.prog 7 #[wideV (enc a), wideV (enc b)] w fun e w' => e = .returned (divZV a b) ∧ Up w w' :=
  div_z ha hb' (fun h w => divide_any (enc_natAbs ha).2 (enc_natAbs hb').2 (by omega) w) w
theorem tdiv_le (a b : Int) : (a.tdiv b).natAbs ≤ a.natAbs := by
  rw [Int.natAbs_tdiv]; exact Nat.div_le_self _ _
end Go.Proofs.Ytbogbdokllmanaa
/-
  The reference's quotients by one limb.
-/
namespace Go.Proofs.Ytbogbdokllmanaa
open Go Go.RowKit
set_option maxRecDepth 100000

theorem over_step {x Q y r b L X q r' : Nat} (h : x = Q * y + r * (b * 18446744073709551616) + (L + X * b)) (hq : y * q + r' = 18446744073709551616 * r + X) : x = (Q + q * b) * y + r' * b + L := by
  have h2 : (y * q + r') * b = (18446744073709551616 * r + X) * b := by rw [hq]
  have h3 : (Q + q * b) * y + r' * b = Q * y + (y * q + r') * b := by grind
  have h4 : (18446744073709551616 * r + X) * b = r * (b * 18446744073709551616) + X * b := by grind
  rw [h, h3, h2, h4]
  omega
set_option maxHeartbeats 2000000 in
theorem over_am {x y : Nat} {va vb : Value} {w : World} (ha : Am w va x) (hb : Am w vb y) (hx : nl x < 100000) (hy : nl y = 1) :
    Calls Try.prog 34 #[va, vb] w fun e w' => Up w w' ∧ ∃ a n c b m d, e = .returned (.tuple #[.slice a n c, .slice b m d]) ∧ Am w' (.slice a n c) (x / y) ∧ Am w' (.slice b m d) (x % y) := by
  obtain ⟨a, ca, rfl, hca1, hca0⟩ := ha.open
  obtain ⟨b, cb, rfl, hcb1, hcb0⟩ := hb.open
  obtain ⟨hy64, hy0, hyl⟩ := nl_one hy
  have HC := hid (fun w' (h : Up w w') => cmp_am (ha.up h) (hb.up h) (by omega) (by omega))
  by_cases hlt : x < y
  · have hA := hid ha
    have e1 : x / y = 0 := Nat.div_eq_of_lt hlt
    have e2 : x % y = x := Nat.mod_eq_of_lt hlt
    have d1 : decide (ordZ x y < 0) = true := by unfold ordZ; rw [if_pos hlt]; rfl
    rw [e1, e2]
    rw [hy] at HC hcb1 ⊢
    clear ha hb e1 e2 hca0 hcb0 hy
    go_enter Try.func34, Try.ntmps34
    go_wp2_with (first | (go_at_call 36; (with_reducible refine (HC.out _ (by repeat (first | assumption | (with_reducible apply Up.of) | (with_reducible exact Below.refl _ _) | (with_reducible exact Up.refl _) | ((with_reducible apply bl_setRow); (focus (first | exact Nat.le_refl _ | (simp; done) | (simp; omega) | omega))) | (with_reducible apply below_drewN) | (with_reducible apply Below.drew) | ((with_reducible apply bl_alloc); (focus (first | exact Nat.le_refl _ | (simp; done) | (simp; omega) | omega))) | ((with_reducible apply bl_setCell); (focus (first | exact Nat.le_refl _ | (simp; done) | (simp; omega) | omega))) | ((with_reducible apply up_tr); assumption)))).mono ?_); rintro e wC ⟨rfl, huC⟩))
    go_ret2
    exact ⟨(by repeat (first | assumption | (with_reducible apply Up.of) | (with_reducible exact Below.refl _ _) | (with_reducible exact Up.refl _) | ((with_reducible apply bl_setRow); (focus (first | exact Nat.le_refl _ | (simp; done) | (simp; omega) | omega))) | (with_reducible apply below_drewN) | (with_reducible apply Below.drew) | ((with_reducible apply bl_alloc); (focus (first | exact Nat.le_refl _ | (simp; done) | (simp; omega) | omega))) | ((with_reducible apply bl_setCell); (focus (first | exact Nat.le_refl _ | (simp; done) | (simp; omega) | omega))) | ((with_reducible apply up_tr); assumption))), _, _, _, _, _, _, rfl, am_nil _, hA.out.up huC⟩
  · have d1 : decide (ordZ x y < 0) = false := by
      unfold ordZ
      rw [if_neg hlt]
      split <;> simp
    obtain ⟨bb, rfl, hbb, hcb⟩ := hcb0 0 (by omega)
    rw [hyl] at hcb
    rw [hy] at HC hcb1 ⊢
    have hsx := sum_nl x
    have hn0 : 0 < nl x := nl_pos (by omega)
    have HSX := hid hsx
    have HXA := hid (nl_le (x := x) (k := nl x) (lt_bp_nl x))
    clear ha hb hsx hcb0 HXA hy
    generalize nl x = n at *
    go_enter Try.func34, Try.ntmps34
    go_wp2_with (first | (go_at_call 36; (with_reducible refine (HC.out _ (by repeat (first | assumption | (with_reducible apply Up.of) | (with_reducible exact Below.refl _ _) | (with_reducible exact Up.refl _) | ((with_reducible apply bl_setRow); (focus (first | exact Nat.le_refl _ | (simp; done) | (simp; omega) | omega))) | (with_reducible apply below_drewN) | (with_reducible apply Below.drew) | ((with_reducible apply bl_alloc); (focus (first | exact Nat.le_refl _ | (simp; done) | (simp; omega) | omega))) | ((with_reducible apply bl_setCell); (focus (first | exact Nat.le_refl _ | (simp; done) | (simp; omega) | omega))) | ((with_reducible apply up_tr); assumption)))).mono ?_); rintro e wC ⟨rfl, huC⟩) | ((with_reducible apply mkP (n := n)); exact rfl; (first | rfl | omega); omega))
    have hsC := huC.size
    go_loopw [8, 9] (fun tr ti wr => ∃ (m r : Nat) (S : Nat → Nat), m ≤ n ∧ ti = .int .i64 ((m : Int) - 1) ∧ tr = .int .u64 (r : Nat) ∧ r < y ∧ (∀ j, j < n → S j < 18446744073709551616) ∧ (∀ j, j < m → S j = 0) ∧ x = sumL S n * y + r * bp m + sumL (limb x) m ∧
        Row wr wC.heap.size 25 n S ∧ Below w.heap.size w wr)
      (fun _ ti _ => (intOf ti + 1).toNat)
    case atStart => exact ⟨n, 0, fun _ => 0, Nat.le_refl _, rfl, rfl, hy0, fun _ _ => by simp, fun _ _ => rfl, by rw [sumL_zeros, HSX.out]; omega, (by (repeat (first | assumption | ((with_reducible apply row_newc); (focus (first | rfl | (simp; done)))) | ((with_reducible apply row_newz); (focus (first | rfl | (simp; done)))) | (with_reducible apply row_same) | ((with_reducible apply row_else); (focus (first | (simp; done) | (simp; omega) | omega))) | (with_reducible apply row_alloc) | (with_reducible apply row_drew) | (with_reducible apply row_drewN) | ((with_reducible apply row_up); assumption)))), (by repeat (first | assumption | (with_reducible apply Up.of) | (with_reducible exact Below.refl _ _) | (with_reducible exact Up.refl _) | ((with_reducible apply bl_setRow); (focus (first | exact Nat.le_refl _ | (simp; done) | (simp; omega) | omega))) | (with_reducible apply below_drewN) | (with_reducible apply Below.drew) | ((with_reducible apply bl_alloc); (focus (first | exact Nat.le_refl _ | (simp; done) | (simp; omega) | omega))) | ((with_reducible apply bl_setCell); (focus (first | exact Nat.le_refl _ | (simp; done) | (simp; omega) | omega))) | ((with_reducible apply up_tr); assumption)))⟩
    case round =>
      obtain ⟨m, r, S, hm, rfl, rfl, hr, hSb, hz, hsum, hS, hB⟩ := hrel
      have HSb := hid hSb
      have Hz := hid hz
      have Hsum := hid hsum
      clear hSb hz hsum
      by_cases hlt : 0 < m
      · obtain ⟨k, rfl⟩ : ∃ k, m = k + 1 := ⟨m - 1, by omega⟩
        have e : (((k + 1 : Nat) : Int) - 1) = (k : Int) := by omega
        rw [e]
        clear e
        obtain ⟨ba, rfl, hba, hca⟩ := hca0 k (by omega)
        have hcx := hca _ hB
        have hcy := hcb _ hB
        have hlx := limb_lt x k
        have hkn : k < n := by omega
        obtain ⟨q, eq⟩ : ∃ q, q = (18446744073709551616 * r + limb x k) / y := ⟨_, rfl⟩
        obtain ⟨r', er⟩ : ∃ r', r' = (18446744073709551616 * r + limb x k) % y := ⟨_, rfl⟩
        have hD := div64_any r (limb x k) y hy64 hlx hr
        rw [← eq, ← er] at hD
        have HD := hid hD
        have hq : q < 18446744073709551616 := by rw [eq]; exact short_q hr hlx
        have hr' : r' < y := by rw [er]; exact Nat.mod_lt _ hy0
        have HQR : Hid (y * q + r' = 18446744073709551616 * r + limb x k) := hid (by rw [eq, er]; exact Nat.div_add_mod _ _)
        clear eq er hD
        go_wp2
        refine wp_region_upH (S := (fun wq => Row wq wC.heap.size 25 n S ∧ wq.cell? ⟨ba, k, none⟩ = some (.int .u64 (limb x k : Nat)) ∧ wq.cell? ⟨bb, 0, none⟩ = some (.int .u64 (y : Nat)) ∧ Below w.heap.size w wq)) (req := (fun j => j != 15)) (by kernel_rfl) (fun _ _ h hu => ⟨(h.1).up hu, hu.cell (h.2.1), hu.cell (h.2.2.1), below_up (h.2.2.2) hu⟩) ⟨(by (repeat (first | assumption | ((with_reducible apply row_newc); (focus (first | rfl | (simp; done)))) | ((with_reducible apply row_newz); (focus (first | rfl | (simp; done)))) | (with_reducible apply row_same) | ((with_reducible apply row_else); (focus (first | (simp; done) | (simp; omega) | omega))) | (with_reducible apply row_alloc) | (with_reducible apply row_drew) | (with_reducible apply row_drewN) | ((with_reducible apply row_up); assumption)))), (by first | assumption | (apply Blk.cell; (focus (repeat (first | assumption | ((with_reducible apply blk_new); (focus (first | rfl | (simp; done)))) | (with_reducible apply blk_alloc) | (with_reducible apply blk_drew) | (with_reducible apply blk_drewN) | ((with_reducible apply blk_up); assumption) | (with_reducible apply blk_same) | ((with_reducible apply blk_else); (focus (first | (simp; done) | (simp; omega) | omega)))))); exact rfl)), (by first | assumption | (apply Blk.cell; (focus (repeat (first | assumption | ((with_reducible apply blk_new); (focus (first | rfl | (simp; done)))) | (with_reducible apply blk_alloc) | (with_reducible apply blk_drew) | (with_reducible apply blk_drewN) | ((with_reducible apply blk_up); assumption) | (with_reducible apply blk_same) | ((with_reducible apply blk_else); (focus (first | (simp; done) | (simp; omega) | omega)))))); exact rfl)), (by repeat (first | assumption | (with_reducible apply Up.of) | (with_reducible exact Below.refl _ _) | (with_reducible exact Up.refl _) | ((with_reducible apply bl_setRow); (focus (first | exact Nat.le_refl _ | (simp; done) | (simp; omega) | omega))) | (with_reducible apply below_drewN) | (with_reducible apply Below.drew) | ((with_reducible apply bl_alloc); (focus (first | exact Nat.le_refl _ | (simp; done) | (simp; omega) | omega))) | ((with_reducible apply bl_setCell); (focus (first | exact Nat.le_refl _ | (simp; done) | (simp; omega) | omega))) | ((with_reducible apply up_tr); assumption)))⟩ (fun wS hSS hSu => ?_)
        have ⟨hS1, hS2, hS3, hSB⟩ := hSS
        clear hcx hcy hS hB
        refine wpAnyU_pure (i := 0) (d := (some 44)) (v := ?_) rfl rfl (by kernel_rfl) (fun _ _ _ h => h) hSu.out (Or.inl ⟨by rfl, fun w' _ => yu_value ?_⟩) ?_
        rotate_left
        · (go_simp; (try exact rfl))
        try simp only [Act.put, pu1, pu2, pu3]
        refine wpAnyU_pure (i := 1) (d := (some 45)) (v := ?_) rfl rfl (by kernel_rfl) (fun _ _ _ h => h) hSu.out (Or.inl ⟨by rfl, fun w' _ => yu_value ?_⟩) ?_
        rotate_left
        · (go_simp; (try exact rfl))
        try simp only [Act.put, pu1, pu2, pu3]
        refine wpAnyU_pure (i := 2) (d := (some 46)) (v := ?_) rfl rfl (by kernel_rfl) (fun _ _ _ h => h) hSu.out (Or.inl ⟨by rfl, fun w' _ => yu_value ?_⟩) ?_
        rotate_left
        · (go_simp; (try exact rfl))
        try simp only [Act.put, pu1, pu2, pu3]
        refine wpAnyU_pure (i := 3) (d := (some 47)) (v := ?_) rfl rfl (by kernel_rfl) (fun _ _ _ h => h) hSu.out (Or.inl ⟨by rfl, fun w' _ => yu_value ?_⟩) ?_
        rotate_left
        · (go_simp; (try exact rfl))
        try simp only [Act.put, pu1, pu2, pu3]
        refine wpAnyU_pure (i := 4) (d := (some 48)) (v := ?_) rfl rfl (by kernel_rfl) (fun _ _ _ h => h) hSu.out (Or.inl ⟨by rfl, fun w' _ => yu_value ?_⟩) ?_
        rotate_left
        · (go_simp; (try exact rfl))
        try simp only [Act.put, pu1, pu2, pu3]
        refine wpAnyU_pure (i := 5) (d := (some 49)) (v := ?_) rfl rfl (by kernel_rfl) (fun _ _ _ h => h) hSu.out (Or.inl ⟨by rfl, fun w' _ => yu_value ?_⟩) ?_
        rotate_left
        · (go_simp; (try exact rfl))
        try simp only [Act.put, pu1, pu2, pu3]
        refine wpAnyU_take (i := 6) (d := (some 50)) (v := ?_) rfl rfl (by kernel_rfl) (fun _ _ _ h => h) hSu.out hSS (Or.inl ⟨by rfl, fun w' hSw => yu_value ?_⟩) ?_
        rotate_left
        · ((try dsimp only at hSw); (try obtain ⟨_, _, _, _⟩ := hSw); go_simp; (try exact rfl))
        try simp only [Act.put, pu1, pu2, pu3]
        refine wpAnyU_pure (i := 7) (d := (some 51)) (v := ?_) rfl rfl (by kernel_rfl) (fun _ _ _ h => h) hSu.out (Or.inl ⟨by rfl, fun w' _ => yu_value ?_⟩) ?_
        rotate_left
        · (go_simp; (try exact rfl))
        try simp only [Act.put, pu1, pu2, pu3]
        refine wpAnyU_pure (i := 8) (d := (some 52)) (v := ?_) rfl rfl (by kernel_rfl) (fun _ _ _ h => h) hSu.out (Or.inl ⟨by rfl, fun w' _ => yu_value ?_⟩) ?_
        rotate_left
        · (go_simp; (try exact rfl))
        try simp only [Act.put, pu1, pu2, pu3]
        refine wpAnyU_take (i := 9) (d := (some 53)) (v := ?_) rfl rfl (by kernel_rfl) (fun _ _ _ h => h) hSu.out hSS (Or.inl ⟨by rfl, fun w' hSw => yu_value ?_⟩) ?_
        rotate_left
        · ((try dsimp only at hSw); (try obtain ⟨_, _, _, _⟩ := hSw); go_simp; (try exact rfl))
        try simp only [Act.put, pu1, pu2, pu3]
        refine wpAnyU_take (i := 10) (d := (some 54)) (v := _) rfl rfl (by kernel_rfl) (fun _ _ _ h => h) hSu.out hSS (Or.inl ⟨by rfl, fun w' hSw => yu_call ?_ (HD.out _)⟩) ?_
        · go_simp
        try simp only [Act.put, pu1, pu2, pu3]
        refine wpAnyU_pure (i := 11) (d := (some 43)) (v := ?_) rfl rfl (by kernel_rfl) (fun _ _ _ h => h) hSu.out (Or.inl ⟨by rfl, fun w' _ => yu_value ?_⟩) ?_
        rotate_left
        · (go_simp; (try exact rfl))
        try simp only [Act.put, pu1, pu2, pu3]
        refine wpAnyU_pure (i := 12) (d := (some 55)) (v := ?_) rfl rfl (by kernel_rfl) (fun _ _ _ h => h) hSu.out (Or.inl ⟨by rfl, fun w' _ => yu_value ?_⟩) ?_
        rotate_left
        · (go_simp; (try exact rfl))
        try simp only [Act.put, pu1, pu2, pu3]
        refine wpAnyU_pure (i := 13) (d := (some 56)) (v := ?_) rfl rfl (by kernel_rfl) (fun _ _ _ h => h) hSu.out (Or.inl ⟨by rfl, fun w' _ => yu_value ?_⟩) ?_
        rotate_left
        · (go_simp; (try exact rfl))
        try simp only [Act.put, pu1, pu2, pu3]
        refine wpAnyU_pure (i := 14) (d := (some 57)) (v := ?_) rfl rfl (by kernel_rfl) (fun _ _ _ h => h) hSu.out (Or.inl ⟨by rfl, fun w' _ => yu_value ?_⟩) ?_
        rotate_left
        · (go_simp; (try exact rfl))
        try simp only [Act.put, pu1, pu2, pu3]
        refine wpAnyU_one (i := 15) rfl (by kernel_rfl) (by rfl) fun w1 hw1 => ?_
        have hcW := (hS1.up hw1).cell k (by omega)
        have hfW := (hS1.up hw1).frozen k
        go_simp
        clear hcW hfW
        refine wpAnyU_pure (i := 16) (d := (some 8)) (v := ?_) rfl rfl (by kernel_rfl) (fun _ _ _ h => h) hSu.out (Or.inl ⟨by rfl, fun w' _ => yu_value ?_⟩) ?_
        rotate_left
        · (go_simp; (try exact rfl))
        try simp only [Act.put, pu1, pu2, pu3]
        refine wpAnyU_done (by kernel_rfl) (fun wF huE => ?_) _
        have gS := ((hS1.up hw1).set k q).up huE
        have gB := below_up ((below_up hSB hw1).setCell (p := ⟨wC.heap.size, k, none⟩) (show w.heap.size ≤ wC.heap.size by omega) (.int .u64 (q : Nat))) huE
        clear hS1 hS2 hS3 hSB hSS hw1 huE
        go_wp2
        go_roundw
        case rel =>
          refine ⟨k, r', upd S k q, by omega, by go_num, rfl, hr', upd_lt HSb.out hq, fun j hj => by rw [upd_other _ _ _ (by omega)]; exact Hz.out j (by omega), ?_, gS, gB⟩
          have h1 := sumL_upd S q (show k < n by omega)
          rw [Hz.out k (by omega), Nat.zero_mul, Nat.add_zero] at h1
          have h2 := Hsum.out
          rw [bp_succ, sumL_succ (limb x) k] at h2
          rw [h1]
          exact over_step h2 HQR.out
        case measure => simp [intOf] <;> omega
      · obtain rfl : m = 0 := by omega
        have hfin := Hsum.out
        rw [bp_zero, sumL_zero, Nat.mul_one, Nat.add_zero] at hfin
        have e1 : x / y = sumL S n := by rw [hfin, Nat.mul_comm, Nat.mul_add_div hy0, Nat.div_eq_of_lt hr, Nat.add_zero]
        have e2 : x % y = r := by rw [hfin, Nat.mul_comm, Nat.mul_add_mod, Nat.mod_eq_of_lt hr]
        have ht := fun w' (h : Row w' wC.heap.size 25 n S) => trim_row wC.heap.size n n n S w' h (Nat.le_refl _) (Nat.le_refl _) (by omega)
        have hres := am_row (c := n) hS (Nat.le_refl _) (Nat.le_refl _) HSb.out
        rw [← e1] at hres
        have hr64 : ∀ i, i < 1 → (fun _ => r) i < 18446744073709551616 := fun _ _ => by show r < 18446744073709551616; omega
        have eR : sumL (fun _ => r) 1 = r := by rw [sumL_succ, sumL_zero, bp_zero]; omega
        have ht2 := fun w' b (h : Row w' b 25 1 (fun _ => r)) => trim_row b 1 1 1 (fun _ => r) w' h (Nat.le_refl _) (Nat.le_refl _) (by decide)
        have hres2 : ∀ w' b, Row w' b 25 1 (fun _ => r) → Am w' (.slice (some ⟨b, 0, none⟩) (lenL (fun _ => r) 1) 1) (x % y) := fun w' b h => by
          have := am_row (c := 1) h (Nat.le_refl _) (Nat.le_refl _) hr64
          rw [eR] at this
          rw [e2]
          exact this
        have HT := hid ht
        have HT2 := hid ht2
        have HA := hid hres
        have HA2 := hid hres2
        clear ht hres hfin e1 e2 HSb Hsum Hz ht2 hres2 hr64 eR
        go_wp2_with (first | (go_at_call 27; (first | ((with_reducible refine (HT.out _ (by (repeat (first | assumption | ((with_reducible apply row_newc); (focus (first | rfl | (simp; done)))) | ((with_reducible apply row_newz); (focus (first | rfl | (simp; done)))) | (with_reducible apply row_same) | ((with_reducible apply row_else); (focus (first | (simp; done) | (simp; omega) | omega))) | (with_reducible apply row_alloc) | (with_reducible apply row_drew) | (with_reducible apply row_drewN) | ((with_reducible apply row_up); assumption))))).mono ?_); rintro e wT ⟨rfl, huT⟩) | ((with_reducible refine (HT2.out _ _ (row_one (by simp))).mono ?_); rintro e wV ⟨rfl, huV⟩))))
        go_ret2
        exact ⟨below_up (bl_alloc (below_up hB huT).size (below_up hB huT)) huV, _, _, _, _, _, _, rfl, ((HA.out.up huT).up (Up.alloc _ _)).up huV, (HA2.out _ _ (row_one rfl)).up huV⟩
end Go.Proofs.Ytbogbdokllmanaa
/-
  The reference's quotients and nearest numbers.
-/
namespace Go.Proofs.Ytbogbdokllmanaa
open Go Go.RowKit
set_option maxRecDepth 100000

theorem am_set {w : World} {v : Value} {x : Nat} {g : Nat} {C D : Array Value} (hg : Blk w g 30 C) (h : Am w v x) : Am (w.setRow g D) v x := h.setRow hg
theorem am_alloc {w : World} {v : Value} {x : Nat} {o : Obj} (h : Am w v x) : Am (w.alloc o) v x := h.up (Up.alloc _ _)
theorem am_up {w w' : World} {v : Value} {x : Nat} (hu : Up w w') (h : Am w v x) : Am w' v x := h.up hu
theorem resBB {fn : Func} {p q : Tmp} (h : fn.results = #[.cell p 30, .cell q 30]) {tmps : Array Value} {w : World} {g k : Nat} {C D : Array Value} (hp : tmps.getD p undef = .pointer (some ⟨g, 0, none⟩)) (hq : tmps.getD q undef = .pointer (some ⟨k, 0, none⟩))
    (hC : Blk w g 30 C) (hD : Blk w k 30 D) (h2 : C.size = 2) (h3 : D.size = 2) : (results fn tmps).run Try.prog w = .ok (.tuple #[.agg C, .agg D]) w := by
  obtain ⟨fs, hu⟩ := undB
  have hp' : tmps[p]?.getD undef = .pointer (some ⟨g, 0, none⟩) := by simpa using hp
  have hq' : tmps[q]?.getD undef = .pointer (some ⟨k, 0, none⟩) := by simpa using hq
  simp [results, h, hp', hq', asAddr, run_loadVar_row w g _ 30 C (0, 0) _ hC hu rfl (by rw [infoB, h2]), run_loadVar_row w k _ 30 D (0, 0) _ hD hu rfl (by rw [infoB, h3])]
theorem pm_quo (p q : Bool) (X Y : Nat) : (pm p X).tdiv (pm q Y) = pm (p != q) (X / Y) := by
  cases p <;> cases q <;> simp [pm, Int.neg_tdiv, Int.tdiv_neg]
theorem pm_rest (p q : Bool) (X Y : Nat) : (pm p X).tmod (pm q Y) = pm p (X % Y) := by
  cases p <;> cases q <;> simp [pm, Int.neg_tmod, Int.tmod_neg] <;> exact Int.tmod_eq_emod_of_nonneg (by omega)
end Go.Proofs.Ytbogbdokllmanaa
/-
  The reference's guess of a quotient's limb by three limbs: never too small.
-/
namespace Go.Proofs.Ytbogbdokllmanaa
open Go Go.RowKit
set_option maxRecDepth 100000

/-- What a guess promises: no limb whose product isn't too much is greater. -/
def Guess3 (a b c v u g : Nat) : Prop := ∀ q, q < 18446744073709551616 → q * (v * 18446744073709551616 + u) ≤ (a * 18446744073709551616 + b) * 18446744073709551616 + c → q ≤ g
theorem guess3_first {a b c v u : Nat} (hv : 0 < v) (hc : c < 18446744073709551616) : Guess3 a b c v u ((18446744073709551616 * a + b) / v) := by
  intro q _ h
  rw [Nat.le_div_iff_mul_le hv]
  have h1 : q * v * 18446744073709551616 ≤ q * (v * 18446744073709551616 + u) := by
    rw [Nat.mul_add, Nat.mul_assoc]
    exact Nat.le_add_right _ _
  generalize q * v = k at *
  generalize q * (v * 18446744073709551616 + u) = l at *
  omega
theorem guess3_less {a b c v u t r : Nat} (hG : Guess3 a b c v u t) (h : t * v + r = a * 18446744073709551616 + b) (hlt : r * 18446744073709551616 + c < t * u) : 1 ≤ t ∧ Guess3 a b c v u (t - 1) := by
  have h1 : 1 ≤ t := by
    rcases Nat.eq_zero_or_pos t with h0 | h0
    · subst h0; rw [Nat.zero_mul] at hlt; omega
    · exact h0
  refine ⟨h1, fun q hq hle => ?_⟩
  have h2 := hG q hq hle
  rcases Nat.lt_or_ge q t with h3 | h3
  · omega
  · have e : q = t := by omega
    subst e
    rw [← h] at hle
    have e2 : q * (v * 18446744073709551616 + u) = q * v * 18446744073709551616 + q * u := by rw [Nat.mul_add, Nat.mul_assoc]
    rw [e2, Nat.add_mul] at hle
    omega
set_option maxHeartbeats 2000000 in
theorem guess3_any (a b c v u : Nat) (ha : a < 18446744073709551616) (hb : b < 18446744073709551616) (hc : c < 18446744073709551616) (hv : v < 18446744073709551616) (hu : u < 18446744073709551616) (w : World) :
    Calls Try.prog 52 #[.int .u64 (a : Nat), .int .u64 (b : Nat), .int .u64 (c : Nat), .int .u64 (v : Nat), .int .u64 (u : Nat)] w fun e w' => Up w w' ∧ ∃ x, e = .returned x ∧ ∃ g : Nat, x = .int .u64 (g : Nat) ∧ g < 18446744073709551616 ∧ Guess3 a b c v u g := by
  by_cases h : v ≤ a
  · go_enter Try.func52, Try.ntmps52
    go_wp2
    go_ret
    exact ⟨(by repeat (first | assumption | (with_reducible apply Up.of) | (with_reducible exact Below.refl _ _) | (with_reducible exact Up.refl _) | ((with_reducible apply bl_setRow); (focus (first | exact Nat.le_refl _ | (simp; done) | (simp; omega) | omega))) | (with_reducible apply below_drewN) | (with_reducible apply Below.drew) | ((with_reducible apply bl_alloc); (focus (first | exact Nat.le_refl _ | (simp; done) | (simp; omega) | omega))) | ((with_reducible apply bl_setCell); (focus (first | exact Nat.le_refl _ | (simp; done) | (simp; omega) | omega))) | ((with_reducible apply up_tr); assumption))), _, rfl, 18446744073709551615, rfl, by omega, fun q hq _ => by omega⟩
  · have hD := fun w => div64_any a b v hv hb (by omega) w
    have hG := guess3_first (a := a) (b := b) (u := u) (show 0 < v by omega) hc
    have hq := short_q (show a < v by omega) hb
    have hr := Nat.mod_lt (18446744073709551616 * a + b) (show 0 < v by omega)
    have hdm := Nat.div_add_mod (18446744073709551616 * a + b) v
    generalize (18446744073709551616 * a + b) / v = t0 at *
    generalize (18446744073709551616 * a + b) % v = r0 at *
    have HD := hid hD
    have HG := hid hG
    have HE := hid (show t0 * v + r0 = a * 18446744073709551616 + b by rw [Nat.mul_comm t0, hdm]; omega)
    clear hD hG hdm
    go_enter Try.func52, Try.ntmps52
    go_wp2_with (go_at_call 50; (with_reducible refine (HD.out _).mono ?_); rintro e w' ⟨rfl, hu1⟩)
    go_loopw [11, 12, 13] (fun tt tr ti wr => ∃ (t r i : Nat), tt = .int .u64 (t : Nat) ∧ tr = .int .u64 (r : Nat) ∧ ti = .int .i64 (i : Nat) ∧ i ≤ 2 ∧ t < 18446744073709551616 ∧ r < 18446744073709551616 ∧ t * v + r = a * 18446744073709551616 + b ∧ Guess3 a b c v u t ∧ Up w wr)
      (fun _ _ ti _ => 2 - (intOf ti).toNat)
    case atStart => exact ⟨t0, r0, 0, rfl, rfl, rfl, by omega, hq, by omega, HE.out, HG.out, (by repeat (first | assumption | (with_reducible apply Up.of) | (with_reducible exact Below.refl _ _) | (with_reducible exact Up.refl _) | ((with_reducible apply bl_setRow); (focus (first | exact Nat.le_refl _ | (simp; done) | (simp; omega) | omega))) | (with_reducible apply below_drewN) | (with_reducible apply Below.drew) | ((with_reducible apply bl_alloc); (focus (first | exact Nat.le_refl _ | (simp; done) | (simp; omega) | omega))) | ((with_reducible apply bl_setCell); (focus (first | exact Nat.le_refl _ | (simp; done) | (simp; omega) | omega))) | ((with_reducible apply up_tr); assumption)))⟩
    case round =>
      obtain ⟨t, r, i, rfl, rfl, rfl, hi, ht, hr1, he, hg, hup⟩ := hrel
      have He := hid he
      have Hg := hid hg
      clear he hg HE HG
      by_cases hi2 : i < 2
      · obtain ⟨hi1, lo1, hm, eh, el⟩ : ∃ h l : Nat, Hid (∀ w, Calls Try.prog 53 #[.int .u64 t, .int .u64 u] w fun e w' => e = .returned (.tuple #[.int .u64 (h : Nat), .int .u64 (l : Nat)]) ∧ w' = w) ∧
          h = t * u / 18446744073709551616 ∧ l = t * u % 18446744073709551616 := ⟨_, _, hid (Try.bits_Mul64 t u ht hu), rfl, rfl⟩
        have hml : t * u = hi1 * 18446744073709551616 + lo1 := by omega
        have hlo : lo1 < 18446744073709551616 := by omega
        have hhi : hi1 < 18446744073709551616 := by
          have : t * u ≤ 18446744073709551615 * 18446744073709551615 := Nat.mul_le_mul (by omega) (by omega)
          omega
        have HML := hid hml
        clear eh el hml
        by_cases hle : hi1 < r ∨ (hi1 = r ∧ lo1 ≤ c)
        · rcases hle with hlt | ⟨hee, hll⟩
          · go_wp2_with (first | go_skip | (go_at_call 53; (with_reducible refine (hm.out _).mono ?_); rintro e w' ⟨rfl, rfl⟩))
            go_ret
            exact ⟨(by repeat (first | assumption | (with_reducible apply Up.of) | (with_reducible exact Below.refl _ _) | (with_reducible exact Up.refl _) | ((with_reducible apply bl_setRow); (focus (first | exact Nat.le_refl _ | (simp; done) | (simp; omega) | omega))) | (with_reducible apply below_drewN) | (with_reducible apply Below.drew) | ((with_reducible apply bl_alloc); (focus (first | exact Nat.le_refl _ | (simp; done) | (simp; omega) | omega))) | ((with_reducible apply bl_setCell); (focus (first | exact Nat.le_refl _ | (simp; done) | (simp; omega) | omega))) | ((with_reducible apply up_tr); assumption))), _, rfl, t, rfl, ht, Hg.out⟩
          · subst hee
            go_wp2_with (first | go_skip | (go_at_call 53; (with_reducible refine (hm.out _).mono ?_); rintro e w' ⟨rfl, rfl⟩))
            go_ret
            exact ⟨(by repeat (first | assumption | (with_reducible apply Up.of) | (with_reducible exact Below.refl _ _) | (with_reducible exact Up.refl _) | ((with_reducible apply bl_setRow); (focus (first | exact Nat.le_refl _ | (simp; done) | (simp; omega) | omega))) | (with_reducible apply below_drewN) | (with_reducible apply Below.drew) | ((with_reducible apply bl_alloc); (focus (first | exact Nat.le_refl _ | (simp; done) | (simp; omega) | omega))) | ((with_reducible apply bl_setCell); (focus (first | exact Nat.le_refl _ | (simp; done) | (simp; omega) | omega))) | ((with_reducible apply up_tr); assumption))), _, rfl, t, rfl, ht, Hg.out⟩
        · by_cases hee : hi1 = r
          · have hll : ¬ lo1 ≤ c := fun h2 => hle (.inr ⟨hee, h2⟩)
            subst hee
            clear hle
            obtain ⟨h1t, hG2⟩ := guess3_less Hg.out He.out (by have := HML.out; omega)
            obtain ⟨T, hT⟩ : ∃ T, t - 1 = T := ⟨_, rfl⟩
            rw [hT] at hG2
            have eg : IntKind.u64.wrap ((t : Int) - 1) = (T : Nat) := by rw [IntKind.wrap_u64]; omega
            have HG2 := hid hG2
            have HT := hid (show t = T + 1 by omega)
            obtain ⟨s, x, hadd, hs, hsl, hx1⟩ : ∃ s x : Nat, (∀ w, (callFunc 28 #[.int .u64 (hi1 : Nat), .int .u64 (v : Nat), .int .u64 0]).run Try.prog w = .ok (.value (.tuple #[.int .u64 (s : Nat), .int .u64 (x : Nat)])) w) ∧ Hid (s + x * 18446744073709551616 = hi1 + v) ∧ s < 18446744073709551616 ∧ x ≤ 1 := by
              have h := run_add hi1 v 0 (by omega)
              simp only [show ((0 : Nat) : Int) = 0 from rfl] at h
              exact ⟨_, _, h, hid (by omega), Nat.mod_lt _ (by decide), by omega⟩
            clear hG2 hT h1t
            rcases (show x = 0 ∨ x = 1 by omega) with rfl | rfl
            · go_wp2_with (first | go_skip | (go_at_call 53; (with_reducible refine (hm.out _).mono ?_); rintro e w' ⟨rfl, rfl⟩))
              go_roundw
              case rel =>
                refine ⟨T, s, i + 1, rfl, rfl, by go_num, by omega, by have := HT.out; omega, hsl, ?_, HG2.out, (by repeat (first | assumption | (with_reducible apply Up.of) | (with_reducible exact Below.refl _ _) | (with_reducible exact Up.refl _) | ((with_reducible apply bl_setRow); (focus (first | exact Nat.le_refl _ | (simp; done) | (simp; omega) | omega))) | (with_reducible apply below_drewN) | (with_reducible apply Below.drew) | ((with_reducible apply bl_alloc); (focus (first | exact Nat.le_refl _ | (simp; done) | (simp; omega) | omega))) | ((with_reducible apply bl_setCell); (focus (first | exact Nat.le_refl _ | (simp; done) | (simp; omega) | omega))) | ((with_reducible apply up_tr); assumption)))⟩
                have h1 := He.out
                have h2 := hs.out
                rw [HT.out, Nat.add_mul] at h1
                omega
              case measure => simp [intOf] <;> omega
            · go_wp2_with (first | go_skip | (go_at_call 53; (with_reducible refine (hm.out _).mono ?_); rintro e w' ⟨rfl, rfl⟩))
              go_ret
              exact ⟨(by repeat (first | assumption | (with_reducible apply Up.of) | (with_reducible exact Below.refl _ _) | (with_reducible exact Up.refl _) | ((with_reducible apply bl_setRow); (focus (first | exact Nat.le_refl _ | (simp; done) | (simp; omega) | omega))) | (with_reducible apply below_drewN) | (with_reducible apply Below.drew) | ((with_reducible apply bl_alloc); (focus (first | exact Nat.le_refl _ | (simp; done) | (simp; omega) | omega))) | ((with_reducible apply bl_setCell); (focus (first | exact Nat.le_refl _ | (simp; done) | (simp; omega) | omega))) | ((with_reducible apply up_tr); assumption))), _, rfl, T, rfl, by have := HT.out; omega, HG2.out⟩
          · have hn : ¬ hi1 < r := fun h2 => hle (.inl h2)
            have hb1 : ((hi1 : Int) == (r : Int)) = false := by simp; omega
            clear hle
            obtain ⟨h1t, hG2⟩ := guess3_less Hg.out He.out (by have := HML.out; omega)
            obtain ⟨T, hT⟩ : ∃ T, t - 1 = T := ⟨_, rfl⟩
            rw [hT] at hG2
            have eg : IntKind.u64.wrap ((t : Int) - 1) = (T : Nat) := by rw [IntKind.wrap_u64]; omega
            have HG2 := hid hG2
            have HT := hid (show t = T + 1 by omega)
            obtain ⟨s, x, hadd, hs, hsl, hx1⟩ : ∃ s x : Nat, (∀ w, (callFunc 28 #[.int .u64 (r : Nat), .int .u64 (v : Nat), .int .u64 0]).run Try.prog w = .ok (.value (.tuple #[.int .u64 (s : Nat), .int .u64 (x : Nat)])) w) ∧ Hid (s + x * 18446744073709551616 = r + v) ∧ s < 18446744073709551616 ∧ x ≤ 1 := by
              have h := run_add r v 0 (by omega)
              simp only [show ((0 : Nat) : Int) = 0 from rfl] at h
              exact ⟨_, _, h, hid (by omega), Nat.mod_lt _ (by decide), by omega⟩
            clear hG2 hT h1t
            rcases (show x = 0 ∨ x = 1 by omega) with rfl | rfl
            · go_wp2_with (first | go_skip | (go_at_call 53; (with_reducible refine (hm.out _).mono ?_); rintro e w' ⟨rfl, rfl⟩))
              go_roundw
              case rel =>
                refine ⟨T, s, i + 1, rfl, rfl, by go_num, by omega, by have := HT.out; omega, hsl, ?_, HG2.out, (by repeat (first | assumption | (with_reducible apply Up.of) | (with_reducible exact Below.refl _ _) | (with_reducible exact Up.refl _) | ((with_reducible apply bl_setRow); (focus (first | exact Nat.le_refl _ | (simp; done) | (simp; omega) | omega))) | (with_reducible apply below_drewN) | (with_reducible apply Below.drew) | ((with_reducible apply bl_alloc); (focus (first | exact Nat.le_refl _ | (simp; done) | (simp; omega) | omega))) | ((with_reducible apply bl_setCell); (focus (first | exact Nat.le_refl _ | (simp; done) | (simp; omega) | omega))) | ((with_reducible apply up_tr); assumption)))⟩
                have h1 := He.out
                have h2 := hs.out
                rw [HT.out, Nat.add_mul] at h1
                omega
              case measure => simp [intOf] <;> omega
            · go_wp2_with (first | go_skip | (go_at_call 53; (with_reducible refine (hm.out _).mono ?_); rintro e w' ⟨rfl, rfl⟩))
              go_ret
              exact ⟨(by repeat (first | assumption | (with_reducible apply Up.of) | (with_reducible exact Below.refl _ _) | (with_reducible exact Up.refl _) | ((with_reducible apply bl_setRow); (focus (first | exact Nat.le_refl _ | (simp; done) | (simp; omega) | omega))) | (with_reducible apply below_drewN) | (with_reducible apply Below.drew) | ((with_reducible apply bl_alloc); (focus (first | exact Nat.le_refl _ | (simp; done) | (simp; omega) | omega))) | ((with_reducible apply bl_setCell); (focus (first | exact Nat.le_refl _ | (simp; done) | (simp; omega) | omega))) | ((with_reducible apply up_tr); assumption))), _, rfl, T, rfl, by have := HT.out; omega, HG2.out⟩
      · go_wp2
        go_ret
        exact ⟨hup, _, rfl, t, rfl, ht, Hg.out⟩
end Go.Proofs.Ytbogbdokllmanaa
/-
  The reference's amounts moved to the right.
-/
namespace Go.Proofs.Ytbogbdokllmanaa
open Go Go.RowKit
set_option maxRecDepth 100000

theorem op_shrI {P : Program} {o : Oper} {a : Act} {x y : Operand} {t u : TypeId} (ho : o.op = .binOp .shr t x y u) {X s : Nat} (hx : a.eval x = .int .u64 (X : Nat)) (hy : a.eval y = .int .i64 (s : Nat)) (hs : s ≤ 64) (w : World) :
    (execOp a.eval o).run P w = .ok (.value (.int .u64 ((X / 2 ^ s : Nat) : Int))) w := by
  unfold execOp
  simp only [ho, hx, hy, eqGuard, binOp, shift_shr .u64 .i64 (X : Int) (s : Int) (by omega) (show (s : Int) ≤ 64 by omega)]
  simp
theorem shrIP {P : Program} {t u : TypeId} {ops : Array Oper} {rest : List Oper} {Q : Exit → Act → World → Prop} {a : Act} {w : World} {d : Option Tmp} {p q : Tmp} {ty : TypeId} {pos : String} {af : Array Edge} {gd : Option (Nat × Bool)} {X Y : Nat}
    (hw : Region.wanted { dst := d, op := .binOp .shr t (.tmp p) (.tmp q) u, type := ty, pos := pos, after := af, guard := gd } (yielded ops a.tmps) = true) (hx : a.eval (.tmp p) = .int .u64 (X : Nat)) (hy : a.eval (.tmp q) = .int .i64 (Y : Nat)) (hs : Y ≤ 64)
    (h : wpList P ops Q rest (a.put d (.int .u64 ((X / 2 ^ Y : Nat) : Int))) w) : wpList P ops Q ({ dst := d, op := .binOp .shr t (.tmp p) (.tmp q) u, type := ty, pos := pos, after := af, guard := gd } :: rest) a w := wpList_run hw (op_shrI rfl hx hy hs w) h
theorem op_shlI {P : Program} {o : Oper} {a : Act} {x y : Operand} {t u : TypeId} (ho : o.op = .binOp .shl t x y u) {X s : Nat} (hx : a.eval x = .int .u64 (X : Nat)) (hy : a.eval y = .int .i64 (s : Nat)) (hs : s ≤ 64) (w : World) :
    (execOp a.eval o).run P w = .ok (.value (.int .u64 ((X * 2 ^ s % 18446744073709551616 : Nat) : Int))) w := by
  have e : IntKind.u64.wrap ((X : Int) * 2 ^ s) = ((X * 2 ^ s % 18446744073709551616 : Nat) : Int) := by
    rw [IntKind.wrap_u64, show (2 : Int) ^ s = ((2 ^ s : Nat) : Int) by simp, ← Int.natCast_mul]
    generalize X * 2 ^ s = q
    omega
  unfold execOp
  simp only [ho, hx, hy, eqGuard, binOp, shift_shl .u64 .i64 (X : Int) (s : Int) (by omega) (show (s : Int) ≤ 64 by omega)]
  simpa using e
/-- What stands in the answer behind i rounds. -/
def rsf (x s i : Nat) : Nat → Nat := fun j => if j < i then rsh (limb x) s j else 0
theorem rsf_next (x s i : Nat) : upd (rsf x s i) i (rsh (limb x) s i) = rsf x s (i + 1) := by
  funext j
  unfold upd rsf
  by_cases e : j = i
  · subst e; simp
  · rw [if_neg e]
    by_cases h : j < i
    · rw [if_pos h, if_pos (by omega)]
    · rw [if_neg h, if_neg (by omega)]
theorem rsh_last {x s i : Nat} (h : limb x (i + 1) = 0 ∨ s = 0) : rsh (limb x) s i = limb x i / 2 ^ s := by
  unfold rsh
  rcases h with h | h
  · rw [h]; simp
  · subst h; simp [Nat.mod_one]
theorem rsh_all {x s : Nat} (hs : s < 64) : sumL (rsh (limb x) s) (nl x) = x / 2 ^ s := by
  rw [rsh_num (by omega) (fun i _ => limb_lt x i), sumL_limb, Nat.mod_eq_of_lt (Nat.lt_of_lt_of_le (lt_bp_nl x) (bp_mono (by omega)))]
  exact Nat.mod_eq_of_lt (Nat.lt_of_le_of_lt (Nat.div_le_self _ _) (lt_bp_nl x))
set_option maxHeartbeats 2000000 in
theorem right_am {x s : Nat} {va : Value} {w : World} (ha : Am w va x) (hx : nl x < 100000) (hs : s < 64) :
    Calls Try.prog 55 #[va, .int .i64 (s : Nat)] w fun e w' => Up w w' ∧ ∃ v, e = .returned v ∧ Am w' v (x / 2 ^ s) := by
  obtain ⟨a, ca, rfl, hca1, hca0⟩ := ha.open
  obtain ⟨n, hn⟩ : ∃ n, nl x = n := ⟨_, rfl⟩
  have hz : ∀ j, n ≤ j → limb x j = 0 := fun j hj => limb_nl (by omega)
  have hA := rsh_all (x := x) hs
  rw [hn] at hca1 hca0 hx hA ⊢
  have HZ := hid hz
  have HA := hid hA
  clear ha hn hz hA
  have hs2 : s ≤ 64 := by omega
  go_enter Try.func55, Try.ntmps55
  go_wp2_with (first | ((with_reducible apply mkP (n := n)); exact rfl; (first | rfl | omega); omega))
  go_loopw [6] (fun ti wr => ∃ (i : Nat), i ≤ n ∧ ti = .int .i64 (i : Nat) ∧ Row wr w.heap.size 25 n (rsf x s i) ∧ Below w.heap.size w wr)
    (fun ti _ => n - (intOf ti).toNat)
  case atStart => exact ⟨0, by omega, rfl, by rw [show rsf x s 0 = fun _ => 0 by funext j; simp [rsf]]; exact row_newc _ _ _ rfl, (by repeat (first | assumption | (with_reducible apply Up.of) | (with_reducible exact Below.refl _ _) | (with_reducible exact Up.refl _) | ((with_reducible apply bl_setRow); (focus (first | exact Nat.le_refl _ | (simp; done) | (simp; omega) | omega))) | (with_reducible apply below_drewN) | (with_reducible apply Below.drew) | ((with_reducible apply bl_alloc); (focus (first | exact Nat.le_refl _ | (simp; done) | (simp; omega) | omega))) | ((with_reducible apply bl_setCell); (focus (first | exact Nat.le_refl _ | (simp; done) | (simp; omega) | omega))) | ((with_reducible apply up_tr); assumption)))⟩
  case round =>
    obtain ⟨i, hi, rfl, hS, hB⟩ := hrel
    by_cases hlt : i < n
    · obtain ⟨ba, rfl, hba, hca⟩ := hca0 i hlt
      have hcx := hca wr hB
      have hcs := hS.cell i hlt
      have hfs := hS.frozen i
      have hla := limb_lt x i
      obtain ⟨r, hr⟩ : ∃ r, limb x i / 2 ^ s = r := ⟨_, rfl⟩
      have gS := hS.set i r
      have gB := hB.setCell (p := ⟨w.heap.size, i, none⟩) (Nat.le_refl _) (.int .u64 (r : Nat))
      have HR := hid hr
      by_cases hmore : 0 < s ∧ i + 1 < n
      · obtain ⟨h0, h1⟩ := hmore
        obtain ⟨bb, he, hbb, hcb⟩ := hca0 (i + 1) h1
        obtain rfl : ba = bb := by simpa using he
        have d1 : decide ((0 : Int) < (s : Nat)) = true := decide_eq_true (by omega)
        have e1 : IntKind.i64.wrap ((i : Int) + 1) = (i : Int) + 1 := IntWalk.i64_in _ (by omega)
        have d2 : decide ((i : Int) + 1 < (n : Nat)) = true := decide_eq_true (by omega)
        have d3 : ((i : Int) + 1).toNat = i + 1 := by omega
        have d4 : (0 : Int) ≤ (i : Int) + 1 := by omega
        have d5 : (i : Int) + 1 < (n : Nat) := by omega
        have e2 : IntKind.i64.wrap (64 - (s : Int)) = ((64 - s : Nat) : Int) := by rw [IntWalk.i64_in _ (by omega)]; omega
        have hor := rsh_or (x := limb x i) (y := limb x (i + 1)) (show s ≤ 64 by omega) hla
        rw [hr] at hor
        have hc2 := hcb _ gB
        have hc3 := gS.cell i hlt
        rw [upd_same] at hc3
        have hrl : r < 18446744073709551616 := by rw [← hr]; exact Nat.lt_of_le_of_lt (Nat.div_le_self _ _) hla
        obtain ⟨z, hz⟩ : ∃ z, 64 - s = z := ⟨_, rfl⟩
        rw [hz] at e2 hor
        have hz64 : z ≤ 64 := by omega
        have Hor := hid hor
        have Hz := hid hz
        clear hS hB hr hor he hz
        go_upto_region 7 with (first | go_skip | ((with_reducible apply shrIP); exact rfl; exact rfl; exact rfl; exact hs2; rw [HR.out]))
        refine wp_region_upH (S := (fun wq => Row wq w.heap.size 25 n (upd (rsf x s i) i r) ∧ wq.cell? ⟨w.heap.size, i, none⟩ = some (.int .u64 (r : Nat)) ∧ wq.cell? ⟨ba, i + 1, none⟩ = some (.int .u64 (limb x (i + 1) : Nat)) ∧ Below w.heap.size w wq)) (req := (fun j => j != 14)) (by kernel_rfl) (fun _ _ h hu => ⟨(h.1).up hu, hu.cell (h.2.1), hu.cell (h.2.2.1), below_up (h.2.2.2) hu⟩) ⟨(by (repeat (first | assumption | ((with_reducible apply row_newc); (focus (first | rfl | (simp; done)))) | ((with_reducible apply row_newz); (focus (first | rfl | (simp; done)))) | (with_reducible apply row_same) | ((with_reducible apply row_else); (focus (first | (simp; done) | (simp; omega) | omega))) | (with_reducible apply row_alloc) | (with_reducible apply row_drew) | (with_reducible apply row_drewN) | ((with_reducible apply row_up); assumption)))), (by first | assumption | (apply Blk.cell; (focus (repeat (first | assumption | ((with_reducible apply blk_new); (focus (first | rfl | (simp; done)))) | (with_reducible apply blk_alloc) | (with_reducible apply blk_drew) | (with_reducible apply blk_drewN) | ((with_reducible apply blk_up); assumption) | (with_reducible apply blk_same) | ((with_reducible apply blk_else); (focus (first | (simp; done) | (simp; omega) | omega)))))); exact rfl)), (by first | assumption | (apply Blk.cell; (focus (repeat (first | assumption | ((with_reducible apply blk_new); (focus (first | rfl | (simp; done)))) | (with_reducible apply blk_alloc) | (with_reducible apply blk_drew) | (with_reducible apply blk_drewN) | ((with_reducible apply blk_up); assumption) | (with_reducible apply blk_same) | ((with_reducible apply blk_else); (focus (first | (simp; done) | (simp; omega) | omega)))))); exact rfl)), (by repeat (first | assumption | (with_reducible apply Up.of) | (with_reducible exact Below.refl _ _) | (with_reducible exact Up.refl _) | ((with_reducible apply bl_setRow); (focus (first | exact Nat.le_refl _ | (simp; done) | (simp; omega) | omega))) | (with_reducible apply below_drewN) | (with_reducible apply Below.drew) | ((with_reducible apply bl_alloc); (focus (first | exact Nat.le_refl _ | (simp; done) | (simp; omega) | omega))) | ((with_reducible apply bl_setCell); (focus (first | exact Nat.le_refl _ | (simp; done) | (simp; omega) | omega))) | ((with_reducible apply up_tr); assumption)))⟩ (fun wS hSS hSu => ?_)
        have ⟨hS1, hS2, hS3, hSB⟩ := hSS
        clear hc2 hc3 gS gB
        refine wpAnyU_pure (i := 0) (d := (some 34)) (v := ?_) rfl rfl (by kernel_rfl) (fun _ _ _ h => h) hSu.out (Or.inl ⟨by rfl, fun w' _ => yu_value ?_⟩) ?_
        rotate_left
        · (go_simp; (try exact rfl))
        try simp only [Act.put, pu1, pu2, pu3]
        refine wpAnyU_pure (i := 1) (d := (some 35)) (v := ?_) rfl rfl (by kernel_rfl) (fun _ _ _ h => h) hSu.out (Or.inl ⟨by rfl, fun w' _ => yu_value ?_⟩) ?_
        rotate_left
        · (go_simp; (try exact rfl))
        try simp only [Act.put, pu1, pu2, pu3]
        refine wpAnyU_pure (i := 2) (d := (some 36)) (v := ?_) rfl rfl (by kernel_rfl) (fun _ _ _ h => h) hSu.out (Or.inl ⟨by rfl, fun w' _ => yu_value ?_⟩) ?_
        rotate_left
        · (go_simp; (try exact rfl))
        try simp only [Act.put, pu1, pu2, pu3]
        refine wpAnyU_take (i := 3) (d := (some 37)) (v := ?_) rfl rfl (by kernel_rfl) (fun _ _ _ h => h) hSu.out hSS (Or.inl ⟨by rfl, fun w' hSw => yu_value ?_⟩) ?_
        rotate_left
        · ((try dsimp only at hSw); (try obtain ⟨_, _, _, _⟩ := hSw); go_simp; (try exact rfl))
        try simp only [Act.put, pu1, pu2, pu3]
        refine wpAnyU_pure (i := 4) (d := (some 38)) (v := ?_) rfl rfl (by kernel_rfl) (fun _ _ _ h => h) hSu.out (Or.inl ⟨by rfl, fun w' _ => yu_value ?_⟩) ?_
        rotate_left
        · (go_simp; (try exact rfl))
        try simp only [Act.put, pu1, pu2, pu3]
        refine wpAnyU_pure (i := 5) (d := (some 39)) (v := ?_) rfl rfl (by kernel_rfl) (fun _ _ _ h => h) hSu.out (Or.inl ⟨by rfl, fun w' _ => yu_value ?_⟩) ?_
        rotate_left
        · (go_simp; (try exact rfl))
        try simp only [Act.put, pu1, pu2, pu3]
        refine wpAnyU_pure (i := 6) (d := (some 40)) (v := ?_) rfl rfl (by kernel_rfl) (fun _ _ _ h => h) hSu.out (Or.inl ⟨by rfl, fun w' _ => yu_value ?_⟩) ?_
        rotate_left
        · (go_simp; (try exact rfl))
        try simp only [Act.put, pu1, pu2, pu3]
        refine wpAnyU_pure (i := 7) (d := (some 41)) (v := ?_) rfl rfl (by kernel_rfl) (fun _ _ _ h => h) hSu.out (Or.inl ⟨by rfl, fun w' _ => yu_value ?_⟩) ?_
        rotate_left
        · (go_simp; (try exact rfl))
        try simp only [Act.put, pu1, pu2, pu3]
        refine wpAnyU_take (i := 8) (d := (some 42)) (v := ?_) rfl rfl (by kernel_rfl) (fun _ _ _ h => h) hSu.out hSS (Or.inl ⟨by rfl, fun w' hSw => yu_value ?_⟩) ?_
        rotate_left
        · ((try dsimp only at hSw); (try obtain ⟨_, _, _, _⟩ := hSw); go_simp; (try exact rfl))
        try simp only [Act.put, pu1, pu2, pu3]
        refine wpAnyU_pure (i := 9) (d := (some 43)) (v := ?_) rfl rfl (by kernel_rfl) (fun _ _ _ h => h) hSu.out (Or.inl ⟨by rfl, fun w' _ => yu_value ?_⟩) ?_
        rotate_left
        · (go_simp; (try exact rfl))
        try simp only [Act.put, pu1, pu2, pu3]
        refine wpAnyU_pure (i := 10) (d := (some 44)) (v := ?_) rfl rfl (by kernel_rfl) (fun _ _ _ h => h) hSu.out (Or.inl ⟨by rfl, fun w' _ => yu_value ?_⟩) ?_
        rotate_left
        · (go_simp; (try exact rfl))
        try simp only [Act.put, pu1, pu2, pu3]
        refine wpAnyU_pure (i := 11) (d := (some 45)) (v := _) rfl rfl (by kernel_rfl) (fun _ _ _ h => h) hSu.out (Or.inl ⟨by rfl, fun w' _ => yu_value (op_shlI rfl rfl rfl hz64 _)⟩) ?_
        try simp only [Act.put, pu1, pu2, pu3]
        refine wpAnyU_pure (i := 12) (d := (some 46)) (v := _) rfl rfl (by kernel_rfl) (fun _ _ _ h => h) hSu.out (Or.inl ⟨by rfl, fun w' _ => yu_value (op_or rfl rfl rfl hrl (Nat.mod_lt _ (by decide)) _)⟩) ?_
        try simp only [Act.put, pu1, pu2, pu3]
        refine wpAnyU_pure (i := 13) (d := (some 47)) (v := ?_) rfl rfl (by kernel_rfl) (fun _ _ _ h => h) hSu.out (Or.inl ⟨by rfl, fun w' _ => yu_value ?_⟩) ?_
        rotate_left
        · (go_simp; (try exact rfl))
        try simp only [Act.put, pu1, pu2, pu3]
        obtain ⟨v, hv⟩ : ∃ v, r ||| limb x (i + 1) * 2 ^ z % 18446744073709551616 = v := ⟨_, rfl⟩
        rw [hv]
        have hvr : v = rsh (limb x) s i := by
          rw [← hv, Hor.out]
          unfold rsh
          rw [Hz.out, HR.out]
        have HV := hid hvr
        clear hv hvr
        refine wpAnyU_one (i := 14) rfl (by kernel_rfl) (by rfl) fun w1 hw1 => ?_
        have hcW := (hS1.up hw1).cell i (by omega)
        have hfW := (hS1.up hw1).frozen i
        go_simp
        clear hcW hfW
        refine wpAnyU_done (by kernel_rfl) (fun wF huE => ?_) _
        have gS : Row wF w.heap.size 25 n (rsf x s (i + 1)) := by
          have h := ((hS1.up hw1).set i v).up huE
          rw [show upd (upd (rsf x s i) i r) i v = rsf x s (i + 1) by rw [← rsf_next, ← HV.out]; funext j; unfold upd; split <;> rfl] at h
          exact h
        have gB := below_up ((below_up hSB hw1).setCell (p := ⟨w.heap.size, i, none⟩) (Nat.le_refl _) (.int .u64 (v : Nat))) huE
        clear hS1 hS2 hS3 hSB hSS hw1 huE
        go_wp2
        go_roundw
        case rel => exact ⟨i + 1, by omega, by go_num, gS, gB⟩
        case measure => simp [intOf] <;> omega
      · have hlast : rsh (limb x) s i = r := by
          rw [← hr]
          refine rsh_last ?_
          by_cases h0 : s = 0
          · exact .inr h0
          · exact .inl (HZ.out _ (by omega))
        rw [show upd (rsf x s i) i r = rsf x s (i + 1) by rw [← rsf_next, hlast]] at gS
        clear hS hB hr hlast
        by_cases h0 : 0 < s
        · have h1 : ¬ i + 1 < n := fun h => hmore ⟨h0, h⟩
          have d1 : decide ((0 : Int) < (s : Nat)) = true := decide_eq_true (by omega)
          have e1 : IntKind.i64.wrap ((i : Int) + 1) = (i : Int) + 1 := IntWalk.i64_in _ (by omega)
          have d2 : decide ((i : Int) + 1 < (n : Nat)) = false := decide_eq_false (by omega)
          clear hmore
          go_wp2_with (first | go_skip | ((with_reducible apply shrIP); exact rfl; exact rfl; exact rfl; exact hs2; rw [HR.out]))
          go_roundw
          case rel => exact ⟨i + 1, by omega, by go_num, gS, gB⟩
          case measure => simp [intOf] <;> omega
        · have d1 : decide ((0 : Int) < (s : Nat)) = false := decide_eq_false (by omega)
          clear hmore
          go_wp2_with (first | go_skip | ((with_reducible apply shrIP); exact rfl; exact rfl; exact rfl; exact hs2; rw [HR.out]))
          go_roundw
          case rel => exact ⟨i + 1, by omega, by go_num, gS, gB⟩
          case measure => simp [intOf] <;> omega
    · obtain rfl : i = n := by omega
      have hlt2 : ∀ j, j < i → rsf x s i j < 18446744073709551616 := fun j hj => by
        unfold rsf
        rw [if_pos hj]
        exact rsh_lt (by omega) (limb_lt x j)
      have he : sumL (rsf x s i) i = x / 2 ^ s := by
        rw [← HA.out]
        exact sumL_congr fun j hj => by unfold rsf; rw [if_pos hj]
      have ht := trim_row w.heap.size i i i (rsf x s i) wr hS (Nat.le_refl _) (Nat.le_refl _) (by omega)
      have hres := am_row (c := i) hS (Nat.le_refl _) (Nat.le_refl _) hlt2
      rw [he] at hres
      have HT := hid ht
      have HRS := hid hres
      clear ht hres he hS
      go_wp2_with (first | (go_at_call 27; (with_reducible refine HT.out.mono ?_); rintro e wT ⟨rfl, huT⟩))
      go_ret
      exact ⟨(by repeat (first | assumption | (with_reducible apply Up.of) | (with_reducible exact Below.refl _ _) | (with_reducible exact Up.refl _) | ((with_reducible apply bl_setRow); (focus (first | exact Nat.le_refl _ | (simp; done) | (simp; omega) | omega))) | (with_reducible apply below_drewN) | (with_reducible apply Below.drew) | ((with_reducible apply bl_alloc); (focus (first | exact Nat.le_refl _ | (simp; done) | (simp; omega) | omega))) | ((with_reducible apply bl_setCell); (focus (first | exact Nat.le_refl _ | (simp; done) | (simp; omega) | omega))) | ((with_reducible apply up_tr); assumption))), _, rfl, HRS.out.up huT⟩
end Go.Proofs.Ytbogbdokllmanaa
/-
  The reference's amounts moved to the left by fewer bits than a limb has.
-/
namespace Go.Proofs.Ytbogbdokllmanaa
open Go Go.RowKit
set_option maxRecDepth 100000

set_option maxHeartbeats 4000000 in
theorem left_row {x s : Nat} {va : Value} {w : World} (ha : Am w va x) (hx : nl x < 100000) (h0 : 0 < x) (hs : s < 64) :
    Calls Try.prog 37 #[va, .int .i64 (s : Nat)] w fun e w' => Up w w' ∧ ∃ v, e = .returned v ∧ ∃ S : Nat → Nat, v = .slice (some ⟨w.heap.size, 0, none⟩) (nl (x * 2 ^ s)) (nl x + 1) ∧ (∀ j, j < nl x + 1 → S j = limb (x * 2 ^ s) j) ∧ Row w' w.heap.size 25 (nl x + 1) S := by
  obtain ⟨a, ca, rfl, hca1, hca0⟩ := ha.open
  obtain ⟨n, hn⟩ : ∃ n, nl x = n := ⟨_, rfl⟩
  have hA : sumL (limb x) n = x := by rw [← hn]; exact sum_nl x
  have hn0 : 0 < n := by rw [← hn]; exact nl_pos h0
  rw [hn] at hca1 hca0 hx ⊢
  have HA := hid hA
  clear ha hn hA
  have hs2 : s ≤ 64 := by omega
  have eq0 : (s : Int).tdiv 64 = 0 := by
    rw [show (64 : Int) = ((64 : Nat) : Int) from rfl, ← Int.ofNat_tdiv, Nat.div_eq_of_lt hs]; rfl
  have eq1 : s / 64 = 0 := Nat.div_eq_of_lt hs
  have er0 : (s : Int).tmod 64 = (s : Nat) := by
    rw [show (64 : Int) = ((64 : Nat) : Int) from rfl, ← Int.ofNat_tmod, Nat.mod_eq_of_lt hs]
  have en0 : ((n : Int) == 0) = false := by simp; omega
  have en1 : IntKind.i64.wrap (n : Int) = (n : Nat) := IntWalk.i64_in _ (by omega)
  have en2 : IntKind.i64.wrap ((n : Int) + 1) = (n : Int) + 1 := IntWalk.i64_in _ (by omega)
  go_enter Try.func37, Try.ntmps37
  go_wp2_with (first | ((with_reducible apply mkP (n := n + 1)); exact rfl; (first | rfl | omega | (simp; done)); omega))

  go_loopw [7] (fun ti wr => ∃ (i : Nat) (S : Nat → Nat), i ≤ n ∧ ti = .int .i64 (i : Nat) ∧ (∀ j, j < n + 1 → S j < 18446744073709551616) ∧ sumL S (i + 1) = sumL (limb x) i * 2 ^ s ∧ S i < 2 ^ s ∧ (∀ j, i < j → j < n + 1 → S j = 0) ∧ Row wr w.heap.size 25 (n + 1) S ∧ Below w.heap.size w wr)
    (fun ti _ => n - (intOf ti).toNat)
  case atStart => exact ⟨0, fun _ => 0, by omega, rfl, fun _ _ => by simp, by simp [sumL_succ, sumL_zero], Nat.two_pow_pos s, fun _ _ _ => rfl, row_newc _ _ _ rfl, (by repeat (first | assumption | (with_reducible apply Up.of) | (with_reducible exact Below.refl _ _) | (with_reducible exact Up.refl _) | ((with_reducible apply bl_setRow); (focus (first | exact Nat.le_refl _ | (simp; done) | (simp; omega) | omega))) | (with_reducible apply below_drewN) | (with_reducible apply Below.drew) | ((with_reducible apply bl_alloc); (focus (first | exact Nat.le_refl _ | (simp; done) | (simp; omega) | omega))) | ((with_reducible apply bl_setCell); (focus (first | exact Nat.le_refl _ | (simp; done) | (simp; omega) | omega))) | ((with_reducible apply up_tr); assumption)))⟩
  case round =>
    obtain ⟨i, S, hi, rfl, hSb, hsum, hSi, hS0, hS, hB⟩ := hrel
    have HSb := hid hSb
    have Hsum := hid hsum
    have HS0 := hid hS0
    clear hSb hsum hS0
    by_cases hlt : i < n
    · obtain ⟨ba, rfl, hba, hca⟩ := hca0 i hlt
      have ew0 : IntKind.i64.wrap 0 = 0 := by rw [IntKind.wrap_i64]; rfl
      have ei1 : IntKind.i64.wrap (i : Int) = (i : Nat) := IntWalk.i64_in _ (by omega)
      have ei2 : IntKind.i64.wrap ((i : Int) + 1) = (i : Int) + 1 := IntWalk.i64_in _ (by omega)
      have ei3 : ((i : Int) + 1).toNat = i + 1 := by omega
      have ei4 : (0 : Int) ≤ (i : Int) + 1 := by omega
      have ei5 : (i : Int) < (n : Int) + 1 := by omega
      have ei6 : (i : Int) + 1 < (n : Int) + 1 := by omega
      have hcx := hca wr hB
      have hcs := hS.cell i (by omega)
      have hSi64 := HSb.out i (by omega)
      obtain ⟨r1, e1⟩ : ∃ r1, r1 = S i ||| limb x i * 2 ^ s % 18446744073709551616 := ⟨_, rfl⟩
      obtain ⟨r2, e2⟩ : ∃ r2, r2 = limb x i / 2 ^ (64 - s) := ⟨_, rfl⟩
      have hst := lsh_step hs (limb_lt x i) hSi
      rw [← e1, ← e2] at hst
      obtain ⟨hst1, hst2, hst3⟩ := hst
      have He1 := hid e1.symm
      have He2 := hid e2.symm
      have Hst1 := hid hst1
      clear e1 e2 hst1
      go_wp2
      refine wp_region_upH (S := (fun wq => Row wq w.heap.size 25 (n + 1) S ∧ wq.cell? ⟨w.heap.size, i, none⟩ = some (.int .u64 (S i : Nat)) ∧ wq.cell? ⟨ba, i, none⟩ = some (.int .u64 (limb x i : Nat)) ∧ Below w.heap.size w wq)) (req := (fun j => j != 15)) (by kernel_rfl) (fun _ _ h hu => ⟨(h.1).up hu, hu.cell (h.2.1), hu.cell (h.2.2.1), below_up (h.2.2.2) hu⟩) ⟨(by (repeat (first | assumption | ((with_reducible apply row_newc); (focus (first | rfl | (simp; done)))) | ((with_reducible apply row_newz); (focus (first | rfl | (simp; done)))) | (with_reducible apply row_same) | ((with_reducible apply row_else); (focus (first | (simp; done) | (simp; omega) | omega))) | (with_reducible apply row_alloc) | (with_reducible apply row_drew) | (with_reducible apply row_drewN) | ((with_reducible apply row_up); assumption)))), (by first | assumption | (apply Blk.cell; (focus (repeat (first | assumption | ((with_reducible apply blk_new); (focus (first | rfl | (simp; done)))) | (with_reducible apply blk_alloc) | (with_reducible apply blk_drew) | (with_reducible apply blk_drewN) | ((with_reducible apply blk_up); assumption) | (with_reducible apply blk_same) | ((with_reducible apply blk_else); (focus (first | (simp; done) | (simp; omega) | omega)))))); exact rfl)), (by first | assumption | (apply Blk.cell; (focus (repeat (first | assumption | ((with_reducible apply blk_new); (focus (first | rfl | (simp; done)))) | (with_reducible apply blk_alloc) | (with_reducible apply blk_drew) | (with_reducible apply blk_drewN) | ((with_reducible apply blk_up); assumption) | (with_reducible apply blk_same) | ((with_reducible apply blk_else); (focus (first | (simp; done) | (simp; omega) | omega)))))); exact rfl)), (by repeat (first | assumption | (with_reducible apply Up.of) | (with_reducible exact Below.refl _ _) | (with_reducible exact Up.refl _) | ((with_reducible apply bl_setRow); (focus (first | exact Nat.le_refl _ | (simp; done) | (simp; omega) | omega))) | (with_reducible apply below_drewN) | (with_reducible apply Below.drew) | ((with_reducible apply bl_alloc); (focus (first | exact Nat.le_refl _ | (simp; done) | (simp; omega) | omega))) | ((with_reducible apply bl_setCell); (focus (first | exact Nat.le_refl _ | (simp; done) | (simp; omega) | omega))) | ((with_reducible apply up_tr); assumption)))⟩ (fun wS hSS hSu => ?_)
      have ⟨hS1, hS2, hS3, hSB⟩ := hSS
      clear hcx hcs hS hB
      refine wpAnyU_pure (i := 0) (d := (some 26)) (v := ?_) rfl rfl (by kernel_rfl) (fun _ _ _ h => h) hSu.out (Or.inl ⟨by rfl, fun w' _ => yu_value ?_⟩) ?_
      rotate_left
      · (go_simp; (try exact rfl))
      try simp only [Act.put, pu1, pu2, pu3]
      refine wpAnyU_pure (i := 1) (d := (some 27)) (v := ?_) rfl rfl (by kernel_rfl) (fun _ _ _ h => h) hSu.out (Or.inl ⟨by rfl, fun w' _ => yu_value ?_⟩) ?_
      rotate_left
      · (go_simp; (try exact rfl))
      try simp only [Act.put, pu1, pu2, pu3]
      refine wpAnyU_pure (i := 2) (d := (some 28)) (v := ?_) rfl rfl (by kernel_rfl) (fun _ _ _ h => h) hSu.out (Or.inl ⟨by rfl, fun w' _ => yu_value ?_⟩) ?_
      rotate_left
      · (go_simp; (try exact rfl))
      try simp only [Act.put, pu1, pu2, pu3]
      refine wpAnyU_pure (i := 3) (d := (some 29)) (v := ?_) rfl rfl (by kernel_rfl) (fun _ _ _ h => h) hSu.out (Or.inl ⟨by rfl, fun w' _ => yu_value ?_⟩) ?_
      rotate_left
      · (go_simp; (try exact rfl))
      try simp only [Act.put, pu1, pu2, pu3]
      refine wpAnyU_pure (i := 4) (d := (some 30)) (v := ?_) rfl rfl (by kernel_rfl) (fun _ _ _ h => h) hSu.out (Or.inl ⟨by rfl, fun w' _ => yu_value ?_⟩) ?_
      rotate_left
      · (go_simp; (try exact rfl))
      try simp only [Act.put, pu1, pu2, pu3]
      refine wpAnyU_pure (i := 5) (d := (some 31)) (v := ?_) rfl rfl (by kernel_rfl) (fun _ _ _ h => h) hSu.out (Or.inl ⟨by rfl, fun w' _ => yu_value ?_⟩) ?_
      rotate_left
      · (go_simp; (try exact rfl))
      try simp only [Act.put, pu1, pu2, pu3]
      refine wpAnyU_take (i := 6) (d := (some 32)) (v := ?_) rfl rfl (by kernel_rfl) (fun _ _ _ h => h) hSu.out hSS (Or.inl ⟨by rfl, fun w' hSw => yu_value ?_⟩) ?_
      rotate_left
      · ((try dsimp only at hSw); (try obtain ⟨_, _, _, _⟩ := hSw); go_simp; (try exact rfl))
      try simp only [Act.put, pu1, pu2, pu3]
      refine wpAnyU_pure (i := 7) (d := (some 33)) (v := ?_) rfl rfl (by kernel_rfl) (fun _ _ _ h => h) hSu.out (Or.inl ⟨by rfl, fun w' _ => yu_value ?_⟩) ?_
      rotate_left
      · (go_simp; (try exact rfl))
      try simp only [Act.put, pu1, pu2, pu3]
      refine wpAnyU_pure (i := 8) (d := (some 34)) (v := ?_) rfl rfl (by kernel_rfl) (fun _ _ _ h => h) hSu.out (Or.inl ⟨by rfl, fun w' _ => yu_value ?_⟩) ?_
      rotate_left
      · (go_simp; (try exact rfl))
      try simp only [Act.put, pu1, pu2, pu3]
      refine wpAnyU_pure (i := 9) (d := (some 35)) (v := ?_) rfl rfl (by kernel_rfl) (fun _ _ _ h => h) hSu.out (Or.inl ⟨by rfl, fun w' _ => yu_value ?_⟩) ?_
      rotate_left
      · (go_simp; (try exact rfl))
      try simp only [Act.put, pu1, pu2, pu3]
      refine wpAnyU_take (i := 10) (d := (some 36)) (v := ?_) rfl rfl (by kernel_rfl) (fun _ _ _ h => h) hSu.out hSS (Or.inl ⟨by rfl, fun w' hSw => yu_value ?_⟩) ?_
      rotate_left
      · ((try dsimp only at hSw); (try obtain ⟨_, _, _, _⟩ := hSw); go_simp; (try exact rfl))
      try simp only [Act.put, pu1, pu2, pu3]
      refine wpAnyU_pure (i := 11) (d := (some 37)) (v := ?_) rfl rfl (by kernel_rfl) (fun _ _ _ h => h) hSu.out (Or.inl ⟨by rfl, fun w' _ => yu_value ?_⟩) ?_
      rotate_left
      · (go_simp; (try exact rfl))
      try simp only [Act.put, pu1, pu2, pu3]
      refine wpAnyU_pure (i := 12) (d := (some 38)) (v := _) rfl rfl (by kernel_rfl) (fun _ _ _ h => h) hSu.out (Or.inl ⟨by rfl, fun w' _ => yu_value (op_shlI rfl rfl rfl hs2 _)⟩) ?_
      try simp only [Act.put, pu1, pu2, pu3]
      refine wpAnyU_pure (i := 13) (d := (some 39)) (v := _) rfl rfl (by kernel_rfl) (fun _ _ _ h => h) hSu.out (Or.inl ⟨by rfl, fun w' _ => yu_value (op_or rfl rfl rfl hSi64 (Nat.mod_lt _ (by decide)) _)⟩) ?_
      try simp only [Act.put, pu1, pu2, pu3]
      rw [He1.out]
      refine wpAnyU_pure (i := 14) (d := (some 40)) (v := ?_) rfl rfl (by kernel_rfl) (fun _ _ _ h => h) hSu.out (Or.inl ⟨by rfl, fun w' _ => yu_value ?_⟩) ?_
      rotate_left
      · (go_simp; (try exact rfl))
      try simp only [Act.put, pu1, pu2, pu3]
      refine wpAnyU_one (i := 15) rfl (by kernel_rfl) (by rfl) fun w1 hw1 => ?_
      have hcW := (hS1.up hw1).cell i (by omega)
      have hfW := (hS1.up hw1).frozen i
      go_simp
      clear hcW hfW
      refine wpAnyU_done (by kernel_rfl) (fun wF huE => ?_) _
      have gM := ((hS1.up hw1).set i r1).up huE
      have gB := below_up ((below_up hSB hw1).setCell (p := ⟨w.heap.size, i, none⟩) (Nat.le_refl _) (.int .u64 (r1 : Nat))) huE
      clear hS1 hS2 hS3 hSB hSS hw1 huE
      have hr2 : r2 < 18446744073709551616 := by rw [← He2.out]; exact Nat.lt_of_le_of_lt (Nat.div_le_self _ _) (limb_lt x i)
      by_cases hs0 : 0 < s
      · have d1 : decide ((0 : Int) < (s : Nat)) = true := decide_eq_true (by omega)
        have ez : IntKind.i64.wrap (64 - (s : Int)) = ((64 - s : Nat) : Int) := by rw [IntWalk.i64_in _ (by omega)]; omega
        obtain ⟨z, hz⟩ : ∃ z, 64 - s = z := ⟨_, rfl⟩
        rw [hz] at ez
        have he2 := He2.out
        rw [hz] at he2
        have He3 := hid he2
        have hz64 : z ≤ 64 := by omega
        clear hz he2
        have hcx := hca wF gB
        have hcs := gM.cell (i + 1) (by omega)
        rw [upd_other _ _ _ (by omega), HS0.out (i + 1) (by omega) (by omega)] at hcs
        go_wp2_with fail
        refine wp_region_upH (S := (fun wq => Row wq w.heap.size 25 (n + 1) (upd S i r1) ∧ wq.cell? ⟨w.heap.size, i + 1, none⟩ = some (.int .u64 (0 : Nat)) ∧ wq.cell? ⟨ba, i, none⟩ = some (.int .u64 (limb x i : Nat)) ∧ Below w.heap.size w wq)) (req := (fun j => j != 17)) (by kernel_rfl) (fun _ _ h hu => ⟨(h.1).up hu, hu.cell (h.2.1), hu.cell (h.2.2.1), below_up (h.2.2.2) hu⟩) ⟨(by (repeat (first | assumption | ((with_reducible apply row_newc); (focus (first | rfl | (simp; done)))) | ((with_reducible apply row_newz); (focus (first | rfl | (simp; done)))) | (with_reducible apply row_same) | ((with_reducible apply row_else); (focus (first | (simp; done) | (simp; omega) | omega))) | (with_reducible apply row_alloc) | (with_reducible apply row_drew) | (with_reducible apply row_drewN) | ((with_reducible apply row_up); assumption)))), (by first | assumption | (apply Blk.cell; (focus (repeat (first | assumption | ((with_reducible apply blk_new); (focus (first | rfl | (simp; done)))) | (with_reducible apply blk_alloc) | (with_reducible apply blk_drew) | (with_reducible apply blk_drewN) | ((with_reducible apply blk_up); assumption) | (with_reducible apply blk_same) | ((with_reducible apply blk_else); (focus (first | (simp; done) | (simp; omega) | omega)))))); exact rfl)), (by first | assumption | (apply Blk.cell; (focus (repeat (first | assumption | ((with_reducible apply blk_new); (focus (first | rfl | (simp; done)))) | (with_reducible apply blk_alloc) | (with_reducible apply blk_drew) | (with_reducible apply blk_drewN) | ((with_reducible apply blk_up); assumption) | (with_reducible apply blk_same) | ((with_reducible apply blk_else); (focus (first | (simp; done) | (simp; omega) | omega)))))); exact rfl)), (by repeat (first | assumption | (with_reducible apply Up.of) | (with_reducible exact Below.refl _ _) | (with_reducible exact Up.refl _) | ((with_reducible apply bl_setRow); (focus (first | exact Nat.le_refl _ | (simp; done) | (simp; omega) | omega))) | (with_reducible apply below_drewN) | (with_reducible apply Below.drew) | ((with_reducible apply bl_alloc); (focus (first | exact Nat.le_refl _ | (simp; done) | (simp; omega) | omega))) | ((with_reducible apply bl_setCell); (focus (first | exact Nat.le_refl _ | (simp; done) | (simp; omega) | omega))) | ((with_reducible apply up_tr); assumption)))⟩ (fun wS hSS hSu => ?_)
        have ⟨hS1, hS2, hS3, hSB⟩ := hSS
        clear hcx hcs gM gB
        refine wpAnyU_pure (i := 0) (d := (some 43)) (v := ?_) rfl rfl (by kernel_rfl) (fun _ _ _ h => h) hSu.out (Or.inl ⟨by rfl, fun w' _ => yu_value ?_⟩) ?_
        rotate_left
        · (go_simp; (try exact rfl))
        try simp only [Act.put, pu1, pu2, pu3]
        refine wpAnyU_pure (i := 1) (d := (some 44)) (v := ?_) rfl rfl (by kernel_rfl) (fun _ _ _ h => h) hSu.out (Or.inl ⟨by rfl, fun w' _ => yu_value ?_⟩) ?_
        rotate_left
        · (go_simp; (try exact rfl))
        try simp only [Act.put, pu1, pu2, pu3]
        refine wpAnyU_pure (i := 2) (d := (some 45)) (v := ?_) rfl rfl (by kernel_rfl) (fun _ _ _ h => h) hSu.out (Or.inl ⟨by rfl, fun w' _ => yu_value ?_⟩) ?_
        rotate_left
        · (go_simp; (try exact rfl))
        try simp only [Act.put, pu1, pu2, pu3]
        refine wpAnyU_pure (i := 3) (d := (some 46)) (v := ?_) rfl rfl (by kernel_rfl) (fun _ _ _ h => h) hSu.out (Or.inl ⟨by rfl, fun w' _ => yu_value ?_⟩) ?_
        rotate_left
        · (go_simp; (try exact rfl))
        try simp only [Act.put, pu1, pu2, pu3]
        refine wpAnyU_pure (i := 4) (d := (some 47)) (v := ?_) rfl rfl (by kernel_rfl) (fun _ _ _ h => h) hSu.out (Or.inl ⟨by rfl, fun w' _ => yu_value ?_⟩) ?_
        rotate_left
        · (go_simp; (try exact rfl))
        try simp only [Act.put, pu1, pu2, pu3]
        refine wpAnyU_pure (i := 5) (d := (some 48)) (v := ?_) rfl rfl (by kernel_rfl) (fun _ _ _ h => h) hSu.out (Or.inl ⟨by rfl, fun w' _ => yu_value ?_⟩) ?_
        rotate_left
        · (go_simp; (try exact rfl))
        try simp only [Act.put, pu1, pu2, pu3]
        refine wpAnyU_pure (i := 6) (d := (some 49)) (v := ?_) rfl rfl (by kernel_rfl) (fun _ _ _ h => h) hSu.out (Or.inl ⟨by rfl, fun w' _ => yu_value ?_⟩) ?_
        rotate_left
        · (go_simp; (try exact rfl))
        try simp only [Act.put, pu1, pu2, pu3]
        refine wpAnyU_take (i := 7) (d := (some 50)) (v := ?_) rfl rfl (by kernel_rfl) (fun _ _ _ h => h) hSu.out hSS (Or.inl ⟨by rfl, fun w' hSw => yu_value ?_⟩) ?_
        rotate_left
        · ((try dsimp only at hSw); (try obtain ⟨_, _, _, _⟩ := hSw); go_simp; (try exact rfl))
        try simp only [Act.put, pu1, pu2, pu3]
        refine wpAnyU_pure (i := 8) (d := (some 51)) (v := ?_) rfl rfl (by kernel_rfl) (fun _ _ _ h => h) hSu.out (Or.inl ⟨by rfl, fun w' _ => yu_value ?_⟩) ?_
        rotate_left
        · (go_simp; (try exact rfl))
        try simp only [Act.put, pu1, pu2, pu3]
        refine wpAnyU_pure (i := 9) (d := (some 52)) (v := ?_) rfl rfl (by kernel_rfl) (fun _ _ _ h => h) hSu.out (Or.inl ⟨by rfl, fun w' _ => yu_value ?_⟩) ?_
        rotate_left
        · (go_simp; (try exact rfl))
        try simp only [Act.put, pu1, pu2, pu3]
        refine wpAnyU_pure (i := 10) (d := (some 53)) (v := ?_) rfl rfl (by kernel_rfl) (fun _ _ _ h => h) hSu.out (Or.inl ⟨by rfl, fun w' _ => yu_value ?_⟩) ?_
        rotate_left
        · (go_simp; (try exact rfl))
        try simp only [Act.put, pu1, pu2, pu3]
        refine wpAnyU_take (i := 11) (d := (some 54)) (v := ?_) rfl rfl (by kernel_rfl) (fun _ _ _ h => h) hSu.out hSS (Or.inl ⟨by rfl, fun w' hSw => yu_value ?_⟩) ?_
        rotate_left
        · ((try dsimp only at hSw); (try obtain ⟨_, _, _, _⟩ := hSw); go_simp; (try exact rfl))
        try simp only [Act.put, pu1, pu2, pu3]
        refine wpAnyU_pure (i := 12) (d := (some 55)) (v := ?_) rfl rfl (by kernel_rfl) (fun _ _ _ h => h) hSu.out (Or.inl ⟨by rfl, fun w' _ => yu_value ?_⟩) ?_
        rotate_left
        · (go_simp; (try exact rfl))
        try simp only [Act.put, pu1, pu2, pu3]
        refine wpAnyU_pure (i := 13) (d := (some 56)) (v := ?_) rfl rfl (by kernel_rfl) (fun _ _ _ h => h) hSu.out (Or.inl ⟨by rfl, fun w' _ => yu_value ?_⟩) ?_
        rotate_left
        · (go_simp; (try exact rfl))
        try simp only [Act.put, pu1, pu2, pu3]
        refine wpAnyU_pure (i := 14) (d := (some 57)) (v := _) rfl rfl (by kernel_rfl) (fun _ _ _ h => h) hSu.out (Or.inl ⟨by rfl, fun w' _ => yu_value (op_shrI rfl rfl rfl hz64 _)⟩) ?_
        try simp only [Act.put, pu1, pu2, pu3]
        rw [He3.out]
        refine wpAnyU_pure (i := 15) (d := (some 58)) (v := _) rfl rfl (by kernel_rfl) (fun _ _ _ h => h) hSu.out (Or.inl ⟨by rfl, fun w' _ => yu_value (op_or (X := 0) rfl rfl rfl (by decide) hr2 _)⟩) ?_
        try simp only [Act.put, pu1, pu2, pu3]
        rw [Nat.zero_or]
        refine wpAnyU_pure (i := 16) (d := (some 59)) (v := ?_) rfl rfl (by kernel_rfl) (fun _ _ _ h => h) hSu.out (Or.inl ⟨by rfl, fun w' _ => yu_value ?_⟩) ?_
        rotate_left
        · (go_simp; (try exact rfl))
        try simp only [Act.put, pu1, pu2, pu3]
        refine wpAnyU_one (i := 17) rfl (by kernel_rfl) (by rfl) fun w1 hw1 => ?_
        have hcW := (hS1.up hw1).cell (i+1) (by omega)
        have hfW := (hS1.up hw1).frozen (i+1)
        go_simp
        clear hcW hfW
        refine wpAnyU_done (by kernel_rfl) (fun wF huE => ?_) _
        have gM := ((hS1.up hw1).set (i + 1) r2).up huE
        have gB := below_up ((below_up hSB hw1).setCell (p := ⟨w.heap.size, i + 1, none⟩) (Nat.le_refl _) (.int .u64 (r2 : Nat))) huE
        clear hS1 hS2 hS3 hSB hSS hw1 huE
        go_wp2
        go_roundw
        case rel =>
          refine ⟨i + 1, upd (upd S i r1) (i + 1) r2, by omega, by go_num, upd_lt (upd_lt HSb.out hst3) hr2, ?_, by rw [upd_same]; exact hst2, fun j h1 h2 => by rw [upd_other _ _ _ (by omega), upd_other _ _ _ (by omega)]; exact HS0.out j (by omega) h2, gM, gB⟩
          have h1 := Hsum.out
          have h2 := Hst1.out
          rw [sumL_succ] at h1
          rw [sumL_upd_succ, sumL_upd_succ, sumL_succ, Nat.add_mul, ← h1, bp_succ]
          have h3 : (r1 + r2 * 18446744073709551616) * bp i = (S i + limb x i * 2 ^ s) * bp i := by rw [h2]
          clear h1 h2 Hsum Hst1 He1 He2 hst2
          generalize limb x i = xk at *
          generalize S i = gk at *
          generalize bp i = b at *
          generalize 2 ^ s = p at *
          generalize sumL S i = T at *
          grind
        case measure => simp [intOf] <;> omega
      · have d1 : decide ((0 : Int) < (s : Nat)) = false := decide_eq_false (by omega)
        have hz2 : r2 = 0 := by
          rw [← He2.out, show 64 - s = 64 by omega]
          exact Nat.div_eq_of_lt (limb_lt x i)
        have gM2 : Row wF w.heap.size 25 (n + 1) (upd (upd S i r1) (i + 1) r2) := by
          refine gM.congr fun j hj => ?_
          by_cases e : j = i + 1
          · rw [e, upd_same, upd_other _ _ _ (by omega), HS0.out (i + 1) (by omega) (by omega), hz2]
          · rw [upd_other _ _ _ e]
        clear gM hz2
        have gM := hid gM2
        clear gM2
        go_wp2
        go_roundw
        case rel =>
          refine ⟨i + 1, upd (upd S i r1) (i + 1) r2, by omega, by go_num, upd_lt (upd_lt HSb.out hst3) hr2, ?_, by rw [upd_same]; exact hst2, fun j h1 h2 => by rw [upd_other _ _ _ (by omega), upd_other _ _ _ (by omega)]; exact HS0.out j (by omega) h2, gM.out, gB⟩
          have h1 := Hsum.out
          have h2 := Hst1.out
          rw [sumL_succ] at h1
          rw [sumL_upd_succ, sumL_upd_succ, sumL_succ, Nat.add_mul, ← h1, bp_succ]
          have h3 : (r1 + r2 * 18446744073709551616) * bp i = (S i + limb x i * 2 ^ s) * bp i := by rw [h2]
          clear h1 h2 Hsum Hst1 He1 He2 hst2
          generalize limb x i = xk at *
          generalize S i = gk at *
          generalize bp i = b at *
          generalize 2 ^ s = p at *
          generalize sumL S i = T at *
          grind
        case measure => simp [intOf] <;> omega
    · obtain rfl : i = n := by omega
      have he := Hsum.out
      rw [HA.out] at he
      have ht := trim_row w.heap.size (i + 1) (i + 1) (i + 1) S wr hS (Nat.le_refl _) (Nat.le_refl _) (by omega)
      have hcl : ∀ j, j < i + 1 → S j = limb (x * 2 ^ s) j := fun j hj => by rw [← he]; exact (limb_sumL HSb.out hj).symm
      have hnl : lenL S (i + 1) = nl (x * 2 ^ s) := by rw [← he, nl_sum HSb.out]
      rw [hnl] at ht
      have HCL := hid hcl
      have HSr := hid hS
      have HT := hid ht
      clear ht hcl hnl he hS
      go_wp2_with (first | (go_at_call 27; (with_reducible refine HT.out.mono ?_); rintro e wT ⟨rfl, huT⟩))
      go_ret
      exact ⟨(by repeat (first | assumption | (with_reducible apply Up.of) | (with_reducible exact Below.refl _ _) | (with_reducible exact Up.refl _) | ((with_reducible apply bl_setRow); (focus (first | exact Nat.le_refl _ | (simp; done) | (simp; omega) | omega))) | (with_reducible apply below_drewN) | (with_reducible apply Below.drew) | ((with_reducible apply bl_alloc); (focus (first | exact Nat.le_refl _ | (simp; done) | (simp; omega) | omega))) | ((with_reducible apply bl_setCell); (focus (first | exact Nat.le_refl _ | (simp; done) | (simp; omega) | omega))) | ((with_reducible apply up_tr); assumption))), _, rfl, S, rfl, HCL.out, HSr.out.up huT⟩
end Go.Proofs.Ytbogbdokllmanaa
/-
  The reference's quotient limb by limb: the numbers.
-/
namespace Go.Proofs.Ytbogbdokllmanaa
open Go Go.RowKit
set_option maxRecDepth 100000

theorem guess3_ge {F V : Nat → Nat} {m P W g : Nat} (hF : ∀ j, j < m + 3 → F j < 18446744073709551616) (hW : sumL F (m + 3) = W) (hP : sumL V (m + 2) = P) (h0 : 0 < P) (hlt : W < P * 18446744073709551616) (hg : Guess3 (F (m + 2)) (F (m + 1)) (F m) (V (m + 1)) (V m) g) : W / P ≤ g := by
  refine hg (W / P) (by rw [Nat.div_lt_iff_lt_mul h0, Nat.mul_comm]; exact hlt) ?_
  have h1 := sumL_lt (f := F) (k := m) fun j hj => hF j (by omega)
  rw [sumL_succ, sumL_succ, sumL_succ, show bp (m + 2) = bp m * 18446744073709551616 * 18446744073709551616 by rw [bp_succ (m + 1), bp_succ m], bp_succ m] at hW
  rw [sumL_succ, sumL_succ, bp_succ] at hP
  have h2 := Nat.div_mul_le_self W P
  generalize W / P = q at *
  have h3 : q * ((V (m + 1) * 18446744073709551616 + V m) * bp m) ≤ q * P := by
    refine Nat.mul_le_mul_left _ ?_
    have e : (V (m + 1) * 18446744073709551616 + V m) * bp m = V m * bp m + V (m + 1) * (bp m * 18446744073709551616) := by grind
    omega
  have h4 : q * (V (m + 1) * 18446744073709551616 + V m) * bp m < ((F (m + 2) * 18446744073709551616 + F (m + 1)) * 18446744073709551616 + F m + 1) * bp m := by
    have e : ((F (m + 2) * 18446744073709551616 + F (m + 1)) * 18446744073709551616 + F m + 1) * bp m = F m * bp m + F (m + 1) * (bp m * 18446744073709551616) + F (m + 2) * (bp m * 18446744073709551616 * 18446744073709551616) + bp m := by grind
    rw [e, Nat.mul_assoc]
    omega
  have h5 := Nat.lt_of_mul_lt_mul_right h4
  omega
/-- An amount moved to the left has one limb more at most. -/
theorem nl_left {x s : Nat} (h0 : 0 < x) (hs : s < 64) : nl x ≤ nl (x * 2 ^ s) ∧ nl (x * 2 ^ s) ≤ nl x + 1 := by
  have h1 := lt_bp_nl x
  have h2 := bp_le_nl (nl_pos h0)
  have hp := Nat.two_pow_pos s
  have h3 : 2 ^ s ≤ 18446744073709551616 := Nat.pow_le_pow_right (n := 2) (by decide) (show s ≤ 64 by omega)
  constructor
  · rcases Nat.lt_or_ge (nl (x * 2 ^ s)) (nl x) with h | h
    · have h4 := lt_bp_nl (x * 2 ^ s)
      have h5 := bp_mono (show nl (x * 2 ^ s) ≤ nl x - 1 by omega)
      have h6 : x * 1 ≤ x * 2 ^ s := Nat.mul_le_mul_left _ hp
      omega
    · exact h
  · refine nl_le ?_
    rw [bp_succ]
    exact Nat.mul_lt_mul_of_lt_of_le h1 h3 (by decide)
/-- A limb's product and what was carried: the limb, and what is carried on. -/
theorem mul_step {t v c hi lo l2 c2 : Nat} (ht : t < 18446744073709551616) (hv : v < 18446744073709551616) (hc : c < 18446744073709551616) (eh : hi = t * v / 18446744073709551616) (el : lo = t * v % 18446744073709551616) (e1 : l2 = (lo + c + 0) % 18446744073709551616) (e2 : c2 = (lo + c + 0) / 18446744073709551616) :
    hi + c2 < 18446744073709551616 ∧ l2 + (hi + c2) * 18446744073709551616 = t * v + c ∧ l2 < 18446744073709551616 ∧ hi < 18446744073709551616 ∧ lo < 18446744073709551616 ∧ c2 ≤ 1 := by
  have h1 : t * v ≤ 18446744073709551615 * 18446744073709551615 := Nat.mul_le_mul (by omega) (by omega)
  generalize t * v = p at *
  omega
end Go.Proofs.Ytbogbdokllmanaa
/-
  The reference's quotient limb by limb: one limb more of it; a nought that is put behind an amount, in its own room.
-/
namespace Go.Proofs.Ytbogbdokllmanaa
open Go Go.RowKit
set_option maxRecDepth 100000

theorem over_more {S S' T : Nat → Nat} {N K i m P W W1 g X : Nat} (hm : i + m < N) (hi : i < K) (hS : ∀ j, j < N → S j < 18446744073709551616) (hX : X = sumL T K * P + sumL S N) (hT : T i = 0) (hR : sumL S N < bp (i + m + 1))
    (hW : sumL (fun j => S (i + j)) (m + 1) = W) (hW1 : sumL (fun j => S' (i + j)) (m + 1) = W1) (ho : ∀ j, j < i ∨ i + m < j → S' j = S j) (he : W1 + g * P = W) (hlt : W1 < P) :
    X = sumL (upd T i g) K * P + sumL S' N ∧ sumL S' N < P * bp i := by
  have hz := zero_above hR
  have e1 : sumL S N = sumL S i + W * bp i := by
    rw [sum_cut (show i + (m + 1) ≤ N by omega) (fun j h1 h2 => hz j (by omega) h2), sumL_split, hW]
  have e2 : sumL S' N = sumL S i + W1 * bp i := by
    rw [sum_cut (show i + (m + 1) ≤ N by omega) (fun j h1 h2 => by rw [ho j (by omega)]; exact hz j (by omega) h2), sumL_split, hW1, sumL_congr fun j hj => ho j (.inl hj)]
  have e3 := sumL_upd T g hi
  rw [hT, Nat.zero_mul, Nat.add_zero] at e3
  have h1 := sumL_lt (f := S) (k := i) fun j hj => hS j (by omega)
  constructor
  · rw [e2, e3, hX, e1, ← he]
    grind
  · rw [e2]
    have h2 : (W1 + 1) * bp i ≤ P * bp i := Nat.mul_le_mul_right _ hlt
    rw [Nat.add_mul] at h2
    omega
/-- What is divided, moved to the left, is below the moved divisor times the quotient's room. -/
theorem over_start {x y n m s : Nat} (hx : x < bp n) (hm : 0 < m) (hmn : m ≤ n) (hs : s < 64) (hP : 9223372036854775808 * bp (m - 1) ≤ y * 2 ^ s) : x * 2 ^ s < bp (n + 1) ∧ x * 2 ^ s < y * 2 ^ s * bp (n - m + 1) := by
  have h5 : 2 ^ s ≤ 9223372036854775808 := Nat.pow_le_pow_right (n := 2) (by decide) (show s ≤ 63 by omega)
  have h6 : x * 2 ^ s < bp n * 9223372036854775808 := Nat.mul_lt_mul_of_lt_of_le hx h5 (by decide)
  have h8 : 9223372036854775808 * bp (m - 1) * bp (n - m + 1) ≤ y * 2 ^ s * bp (n - m + 1) := Nat.mul_le_mul_right _ hP
  rw [Nat.mul_assoc, ← bp_add, show m - 1 + (n - m + 1) = n by omega] at h8
  rw [bp_succ]
  omega
theorem over_guess {S V : Nat → Nat} {n m m1 m2 i P W g : Nat} (hm : m = m1 + 1) (hm2 : m1 = m2 + 1) (him : i + m < n + 1) (hS : ∀ j, j < n + 1 → S j < 18446744073709551616) (hP : sumL V m = P) (h0 : 0 < P) (hR : sumL S (n + 1) < P * bp (i + 1))
    (hW : sumL (fun j => S (i + j)) (m + 1) = W) (hG : Guess3 (S (i + m)) (S (i + m1)) (S (i + m2)) (V m1) (V m2) g) : W / P ≤ g := by
  subst hm2
  subst hm
  have h3 : W < P * 18446744073709551616 := by
    have h4 : W * bp i ≤ sumL S (n + 1) := by
      obtain ⟨d, hd⟩ : ∃ d, n + 1 = i + (m2 + 1 + 1 + 1) + d := ⟨n + 1 - (i + (m2 + 1 + 1 + 1)), by omega⟩
      rw [hd, sumL_split, sumL_split, hW]
      omega
    rw [bp_succ] at hR
    have h5 : W * bp i < P * 18446744073709551616 * bp i := by
      have e : P * 18446744073709551616 * bp i = P * (bp i * 18446744073709551616) := by grind
      omega
    exact Nat.lt_of_mul_lt_mul_right h5
  exact guess3_ge (F := fun j => S (i + j)) (V := V) (m := m2) (fun j hj => hS _ (by omega)) hW hP h0 h3 hG
theorem wrap_room {c n : Nat} {f : Nat → Nat} (hn : n < c) (h0 : f n = 0) :
    ((cells c f).toList.take (n * 1) ++ [Value.int .u64 0] ++ (cells c f).toList.drop (n * 1 + 1)).toArray = cells c f := by
  apply Array.ext'
  apply List.ext_getElem?
  intro i
  simp only [Nat.mul_one]
  have hl : (cells c f).toList.length = c := by simp [cells_size]
  have hl2 : (List.take n (cells c f).toList).length = n := by rw [List.length_take, hl]; omega
  by_cases h1 : i < n
  · rw [List.append_assoc, List.getElem?_append_left (by omega), List.getElem?_take_of_lt h1]
  · by_cases h2 : i = n
    · subst h2
      rw [List.append_assoc, List.getElem?_append_right (by omega), hl2, Nat.sub_self]
      simp only [List.cons_append, List.getElem?_cons_zero]
      rw [Array.getElem?_toList, cells_get c f i hn, h0]
      rfl
    · rw [List.append_assoc, List.getElem?_append_right (by omega), hl2, List.getElem?_append_right (by simp; omega), List.getElem?_drop]
      simp only [List.length_cons, List.length_nil]
      congr 1
      omega
/-- append of one nought where there is room, and a nought stands there already. -/
theorem app0P {ops : Array Oper} {rest : List Oper} {Q : Exit → Act → World → Prop} {a : Act} {w : World} {d : Option Tmp} {s u : Tmp} {ty : TypeId} {pos : String} {af : Array Edge} {g b n c : Nat} {f : Nat → Nat}
    (hs : a.eval (.tmp s) = .slice (some ⟨g, 0, none⟩) n c) (hu : a.eval (.tmp u) = .slice (some ⟨b, 0, none⟩) 1 1) (hR : Row w g 25 c f) (hB : w.cell? ⟨b, 0, none⟩ = some (.int .u64 0)) (hn : n < c) (h0 : f n = 0)
    (h : wpList Try.prog ops Q rest (a.put d (.slice (some ⟨g, 0, none⟩) (n + 1) c)) (w.setRow g (cells c f))) :
    wpList Try.prog ops Q ({ dst := d, op := .call { callee := .builtin .append, args := #[.tmp s, .tmp u], argTypes := #[22, 22] }, type := ty, pos := pos, after := af, guard := none } :: rest) a w := by
  obtain ⟨i0, hi, hz0, hz1, hz2⟩ := info_parts infoU
  refine wpList_plain rfl fun _ hK => ?_
  have hr := run_append_room (P := Try.prog) w 22 ty 25 i0 undS hi g n c (cells c f) hR ⟨b, 0, none⟩ 1 1 [.int .u64 0] (by rw [hz1]; rfl)
    (fun j v hj => by
      cases j with
      | zero => simp only [List.getElem?_cons_zero, Option.some.injEq] at hj; subst hj; exact hB
      | succ j => simp at hj)
    (fun v hv => by simp at hv; subst hv; rfl) (by omega) (by rw [hz1]; simp [cells_size]; omega)
  rw [hz1, show ([Value.int .u64 0] : List Value).length = 1 from rfl, wrap_room hn h0] at hr
  unfold Oper.wp execOp
  simp only [resolve, invoke, builtin, Sem.run_bind, Sem.run_pure, Result.andThen_ok, List.map_toArray, List.map_cons, List.map_nil, hs, hu, hr]
  exact hK _ _ h
end Go.Proofs.Ytbogbdokllmanaa
