/-
  WideSums: each sum, difference, product of wide numbers, or that there is none.
-/
import Derived.Test.YtlkolfnklbldcaaLine
import Derived.Test.YtlkolfnklbldcaaSmall
import Derived.Deep.DeepCutAuto
import Derived.Deep.CutRange
namespace Go.Proofs.Ytlkolfnklbldcaa
open Go Go.RowKit
set_option maxRecDepth 100000

theorem run_allocB {o : Oper} {a : Act} (ho : o.op = .alloc 30) (w : World) :
    (execOp a.eval o).run Try.prog w = .ok (.value (.pointer (some ⟨w.heap.size, 0, none⟩))) (w.alloc (.cells #[.bool false, .slice none 0 0] 30)) := by
  unfold execOp
  rw [ho]
  dsimp only
  go_simp
theorem wpAnyU_allocB {ops : Array Oper} {Q : Exit → Act → World → Prop} {md : Region.Mode} {S : World → Prop} {req : Nat → Bool} {i : Nat} {o : Oper} {d : Option Tmp} {fuel : Nat} {listed : Array Bool} {a : Act} {w : World}
    (hi : ops[i]? = some o) (hd : o.dst = d) (hr : Region.ready md ops listed = [i]) (hw : Region.wanted o (yielded ops a.tmps) = true) (ho : o.op = .alloc 30) (hSup : ∀ w w', S w → Up w w' → S w')
    (h : ∀ w1, Up w w1 → wpAnyU Try.prog md ops Q S req fuel (listed.setIfInBounds i true) (a.put d (.pointer (some ⟨w1.heap.size, 0, none⟩))) (w1.alloc (.cells #[.bool false, .slice none 0 0] 30))) : wpAnyU Try.prog md ops Q S req (fuel + 1) listed a w := by
  subst hd
  refine wpAnyU_one hi hr hw fun w1 hw1 => ?_
  unfold Oper.wp
  rw [run_allocB ho w1]
  exact ⟨fun _ hS => hSup _ _ hS (Up.alloc _ _), h w1 hw1⟩
section
variable {P : Program} {ops : Array Oper} {Q : Exit → Act → World → Prop} {md : Region.Mode} {S : World → Prop} {req : Nat → Bool}
theorem wpOp_callE {i : Nat} {o : Oper} {d : Option Tmp} {fuel : Nat} {listed : Array Bool} {a : Act} {w : World} {f : FuncId} {args : Array Value} {R : Value → World → Prop} (hi : ops[i]? = some o) (hd : o.dst = d) (hw : Region.wanted o (yielded ops a.tmps) = true)
    (hSup : ∀ w w', S w → Up w w' → S w') (hrun : (execOp a.eval o).run P w = .ok (.enter f args) w) (hc : Calls P f args w fun e w'' => Up w w'' ∧ ∃ v, e = .returned v ∧ R v w'')
    (h : ∀ v w'', Up w w'' → R v w'' → wpAnyU P md ops Q S req fuel (listed.setIfInBounds i true) (a.put d v) w'') : wpOp P ops Q i (fun a' w'' => (req i = true → S w → S w'') ∧ wpAnyU P md ops Q S req fuel (listed.setIfInBounds i true) a' w'') a w := by
  unfold wpOp
  simp only [hi, hw, if_true]
  refine .inl ?_
  unfold Oper.wp
  rw [hrun]
  subst hd
  refine Calls.mono hc fun e w'' he => ?_
  obtain ⟨hu, v, rfl, hR⟩ := he
  exact ⟨fun _ hs => hSup _ _ hs hu, h v w'' hu hR⟩
end
theorem wpOp_allocB {ops : Array Oper} {Q : Exit → Act → World → Prop} {md : Region.Mode} {S : World → Prop} {req : Nat → Bool} {i : Nat} {o : Oper} {d : Option Tmp} {fuel : Nat} {listed : Array Bool} {a : Act} {w : World}
    (hi : ops[i]? = some o) (hd : o.dst = d) (hw : Region.wanted o (yielded ops a.tmps) = true) (ho : o.op = .alloc 30) (hSup : ∀ w w', S w → Up w w' → S w')
    (h : wpAnyU Try.prog md ops Q S req fuel (listed.setIfInBounds i true) (a.put d (.pointer (some ⟨w.heap.size, 0, none⟩))) (w.alloc (.cells #[.bool false, .slice none 0 0] 30))) : wpOp Try.prog ops Q i (fun a' w'' => (req i = true → S w → S w'') ∧ wpAnyU Try.prog md ops Q S req fuel (listed.setIfInBounds i true) a' w'') a w := by
  unfold wpOp
  simp only [hi, hw, if_true]
  refine .inl ?_
  unfold Oper.wp
  rw [run_allocB ho w]
  subst hd
  exact ⟨fun _ hS => hSup _ _ hS (Up.alloc _ _), h⟩
theorem wpAnyU_a2 {ops : Array Oper} {Q : Exit → Act → World → Prop} {md : Region.Mode} {S : World → Prop} {req : Nat → Bool} {j k : Nat} {oj ok : Oper} {dj dk : Option Tmp} {fuel : Nat} {listed : Array Bool} {a : Act} {w : World} (hr : Region.ready md ops listed = [j, k])
    (hj : ops[j]? = some oj) (hdj : oj.dst = dj) (hwj : Region.wanted oj (yielded ops a.tmps) = true) (hoj : oj.op = .alloc 30) (hk : ops[k]? = some ok) (hdk : ok.dst = dk) (hwk : Region.wanted ok (yielded ops a.tmps) = true) (hok : ok.op = .alloc 30) (hSup : ∀ w w', S w → Up w w' → S w')
    (h1 : ∀ w1, Up w w1 → wpAnyU Try.prog md ops Q S req fuel (listed.setIfInBounds j true) (a.put dj (.pointer (some ⟨w1.heap.size, 0, none⟩))) (w1.alloc (.cells #[.bool false, .slice none 0 0] 30)))
    (h2 : ∀ w1, Up w w1 → wpAnyU Try.prog md ops Q S req fuel (listed.setIfInBounds k true) (a.put dk (.pointer (some ⟨w1.heap.size, 0, none⟩))) (w1.alloc (.cells #[.bool false, .slice none 0 0] 30))) : wpAnyU Try.prog md ops Q S req (fuel + 1) listed a w :=
  wpAnyU_all hr (by simp) fun w' hw' x hx => by
    simp only [List.mem_cons, List.not_mem_nil, or_false] at hx
    rcases hx with rfl | rfl
    · exact wpOp_allocB hj hdj hwj hoj hSup (h1 w' hw')
    · exact wpOp_allocB hk hdk hwk hok hSup (h2 w' hw')
theorem wpAnyU_ca1 {ops : Array Oper} {Q : Exit → Act → World → Prop} {md : Region.Mode} {S : World → Prop} {req : Nat → Bool} {i j : Nat} {o oj : Oper} {d dj : Option Tmp} {fuel : Nat} {listed : Array Bool} {a : Act} {w : World} {f : FuncId} {args : Array Value} {R : Value → World → Prop} (hr : Region.ready md ops listed = [i, j])
    (hi : ops[i]? = some o) (hd : o.dst = d) (hw : Region.wanted o (yielded ops a.tmps) = true) (hj : ops[j]? = some oj) (hdj : oj.dst = dj) (hwj : Region.wanted oj (yielded ops a.tmps) = true) (hoj : oj.op = .alloc 30) (hSup : ∀ w w', S w → Up w w' → S w')
    (hrun : ∀ w', (execOp a.eval o).run Try.prog w' = .ok (.enter f args) w') (hc : ∀ w', Up w w' → Calls Try.prog f args w' fun e w'' => Up w' w'' ∧ ∃ v, e = .returned v ∧ R v w'')
    (h : ∀ v w'', Up w w'' → R v w'' → wpAnyU Try.prog md ops Q S req fuel (listed.setIfInBounds i true) (a.put d v) w'')
    (h1 : ∀ w1, Up w w1 → wpAnyU Try.prog md ops Q S req fuel (listed.setIfInBounds j true) (a.put dj (.pointer (some ⟨w1.heap.size, 0, none⟩))) (w1.alloc (.cells #[.bool false, .slice none 0 0] 30))) : wpAnyU Try.prog md ops Q S req (fuel + 1) listed a w :=
  wpAnyU_all hr (by simp) fun w' hw' x hx => by
    simp only [List.mem_cons, List.not_mem_nil, or_false] at hx
    rcases hx with rfl | rfl
    · exact wpOp_callE hi hd hw hSup (hrun w') (hc w' hw') fun v w'' hu hR => h v w'' (hw'.trans hu) hR
    · exact wpOp_allocB hj hdj hwj hoj hSup (h1 w' hw')
theorem wpAnyU_ca2 {ops : Array Oper} {Q : Exit → Act → World → Prop} {md : Region.Mode} {S : World → Prop} {req : Nat → Bool} {i j k : Nat} {o oj ok : Oper} {d dj dk : Option Tmp} {fuel : Nat} {listed : Array Bool} {a : Act} {w : World} {f : FuncId} {args : Array Value} {R : Value → World → Prop} (hr : Region.ready md ops listed = [i, j, k])
    (hi : ops[i]? = some o) (hd : o.dst = d) (hw : Region.wanted o (yielded ops a.tmps) = true) (hj : ops[j]? = some oj) (hdj : oj.dst = dj) (hwj : Region.wanted oj (yielded ops a.tmps) = true) (hoj : oj.op = .alloc 30) (hk : ops[k]? = some ok) (hdk : ok.dst = dk) (hwk : Region.wanted ok (yielded ops a.tmps) = true) (hok : ok.op = .alloc 30) (hSup : ∀ w w', S w → Up w w' → S w')
    (hrun : ∀ w', (execOp a.eval o).run Try.prog w' = .ok (.enter f args) w') (hc : ∀ w', Up w w' → Calls Try.prog f args w' fun e w'' => Up w' w'' ∧ ∃ v, e = .returned v ∧ R v w'')
    (h : ∀ v w'', Up w w'' → R v w'' → wpAnyU Try.prog md ops Q S req fuel (listed.setIfInBounds i true) (a.put d v) w'')
    (h1 : ∀ w1, Up w w1 → wpAnyU Try.prog md ops Q S req fuel (listed.setIfInBounds j true) (a.put dj (.pointer (some ⟨w1.heap.size, 0, none⟩))) (w1.alloc (.cells #[.bool false, .slice none 0 0] 30)))
    (h2 : ∀ w1, Up w w1 → wpAnyU Try.prog md ops Q S req fuel (listed.setIfInBounds k true) (a.put dk (.pointer (some ⟨w1.heap.size, 0, none⟩))) (w1.alloc (.cells #[.bool false, .slice none 0 0] 30))) : wpAnyU Try.prog md ops Q S req (fuel + 1) listed a w :=
  wpAnyU_all hr (by simp) fun w' hw' x hx => by
    simp only [List.mem_cons, List.not_mem_nil, or_false] at hx
    rcases hx with rfl | rfl | rfl
    · exact wpOp_callE hi hd hw hSup (hrun w') (hc w' hw') fun v w'' hu hR => h v w'' (hw'.trans hu) hR
    · exact wpOp_allocB hj hdj hwj hoj hSup (h1 w' hw')
    · exact wpOp_allocB hk hdk hwk hok hSup (h2 w' hw')
theorem nl_sum2 {x y : Int} (hx : InR x) (hy : InR y) : nl (x + y).natAbs < 50000 ∧ nl (x - y).natAbs < 50000 ∧ nl (x * y).natAbs < 50000 := by
  have h1 := enc_natAbs hx
  have h2 := enc_natAbs hy
  have h3 : bp 17 = bp 16 * 18446744073709551616 := bp_succ 16
  have e := bp_add 16 16
  have h4 : x.natAbs * y.natAbs < bp 16 * bp 16 := Nat.mul_lt_mul'' h1.2 h2.2
  refine ⟨?_, ?_, ?_⟩
  · have := nl_le (x := (x + y).natAbs) (k := 17) (by omega)
    omega
  · have := nl_le (x := (x - y).natAbs) (k := 17) (by omega)
    omega
  · have := nl_le (x := (x * y).natAbs) (k := 32) (by rw [Int.natAbs_mul, show 32 = 16 + 16 from rfl, e]; exact h4)
    omega
/-- What stands behind the two whole numbers' making. -/
def Two (w : World) (ga gb ea eb : Nat) (x y : Int) (t19 t20 : Value) (wc : World) : Prop :=
  ∃ p q va vb, t19 = .pointer (some ⟨p, 0, none⟩) ∧ t20 = .pointer (some ⟨q, 0, none⟩) ∧ (∃ b a n c, va = .agg #[.bool b, .slice a n c] ∧ Blk wc p 30 #[.bool b, .slice a n c]) ∧ (∃ b a n c, vb = .agg #[.bool b, .slice a n c] ∧ Blk wc q 30 #[.bool b, .slice a n c]) ∧
    Big wc va x ∧ Big wc vb y ∧ Row wc ga 27 16 (limb ea) ∧ Row wc gb 27 16 (limb eb) ∧ Below w.heap.size w wc
theorem sums4 {w wS w0 s1 s2 wF : World} {p q ga gb ea eb : Nat} {x y : Int} {b4 b5 : Bool} {a4 a5 : Option Addr} {n4 c4 n5 c5 : Nat} (hSS : Row wS ga 27 16 (limb ea) ∧ Row wS gb 27 16 (limb eb) ∧ Below w.heap.size w wS) (hU : Up wS w0) (hs1 : Up w0 s1) (k1 : Blk s1 p 30 #[.bool false, .slice none 0 0])
    (hs2 : Up (s1.setRow p #[.bool b4, .slice a4 n4 c4]) s2) (k2 : Blk s2 q 30 #[.bool false, .slice none 0 0]) (huE : Up (s2.setRow q #[.bool b5, .slice a5 n5 c5]) wF) (hX : Big w0 (.agg #[.bool b4, .slice a4 n4 c4]) x) (hY : Big w0 (.agg #[.bool b5, .slice a5 n5 c5]) y)
    (hp : wS.heap.size ≤ p) (hq : wS.heap.size ≤ q) (hne : q ≠ p) : Two w ga gb ea eb x y (.pointer (some ⟨p, 0, none⟩)) (.pointer (some ⟨q, 0, none⟩)) wF := by
  obtain ⟨hA, hB, hL⟩ := hSS
  have l1 := hA.lt
  have l2 := hB.lt
  have l3 := hL.size
  refine ⟨p, q, _, _, rfl, rfl, ⟨_, _, _, _, rfl, ?_⟩, ⟨_, _, _, _, rfl, (k2.setRow _).up huE⟩, ((((hX.up hs1).setRow k1).up hs2).setRow k2).up huE, ((((hY.up hs1).setRow k1).up hs2).setRow k2).up huE, ?_, ?_, ?_⟩
  · exact (((k1.setRow _).up hs2).row_other _ (Ne.symm hne)).up huE
  · exact (((((hA.up hU).up hs1).row_other _ (show ga ≠ p by omega)).up hs2).row_other _ (show ga ≠ q by omega)).up huE
  · exact (((((hB.up hU).up hs1).row_other _ (show gb ≠ p by omega)).up hs2).row_other _ (show gb ≠ q by omega)).up huE
  · exact below_up (below_setRow (below_up (below_setRow (below_up (below_up hL hU) hs1) (show w.heap.size ≤ p by omega) _) hs2) (show w.heap.size ≤ q by omega) _) huE
theorem sign_big {z : Int} {v : Value} {w : World} (h : Big w v z) :
    Calls Try.prog 23 #[v] w fun e w' => e = .returned (.int .i64 (sgn z)) ∧ Up w w' := by
  obtain ⟨a, c, rfl, -⟩ := h
  refine (bsign_any _ _ _ _ _).mono ?_
  rintro e w' ⟨rfl, hu⟩
  exact ⟨ret_int sgn_big, hu⟩
set_option maxHeartbeats 20000000 in
theorem wsums_w {a0 a1 : Option Addr} {l0 l1 c0 c1 : Nat} {f0 f1 : Nat → Nat} (n p k j : Nat) (hn : n < 65536) (hp : p < 65536) (hk : k < 256) (hj : j < 256) (neg meg : Bool) (w : World) (h0 : Lim w a0 l0 f0) (h1 : Lim w a1 l1 f1) :
    Calls Try.prog 3 #[.slice a0 l0 c0, .slice a1 l1 c1, .int .u16 n, .int .u16 p, .int .u8 k, .int .u8 j, .bool neg, .bool meg] w fun e w' => e = .returned (.bool true) ∧ Up w w' := by
  obtain ⟨x, hx, -, cx⟩ := wmade_any n k hn hk neg w h0
  obtain ⟨y, hy, -, cy⟩ := wmade_any p j hp hj meg w h1
  obtain ⟨ns, nd, np⟩ := nl_sum2 hx hy
  have nx := nl_of_in hx
  have ny := nl_of_in hy
  have xa := fun w => add_z hx hy w
  have xs := fun w => sub_z hx hy w
  have xm := fun w => mul_z hx hy w
  have xc := fun w => cmp_z hx hy w
  have xg := fun w => sign_z hx w
  have xb := fun w => bits_z hx w
  have fx := fun w => from_wide hx w
  have fy := fun w => from_wide hy w
  obtain ⟨oa, ka, ea1⟩ : ∃ (o : Nat) (k : Bool), opt (x + y) = .tuple #[.agg (cells 16 (limb o)), .bool k] := ⟨_, _, rfl⟩
  obtain ⟨od, kd, ed1⟩ : ∃ (o : Nat) (k : Bool), opt (x - y) = .tuple #[.agg (cells 16 (limb o)), .bool k] := ⟨_, _, rfl⟩
  obtain ⟨om, km, em1⟩ : ∃ (o : Nat) (k : Bool), opt (x * y) = .tuple #[.agg (cells 16 (limb o)), .bool k] := ⟨_, _, rfl⟩
  rw [ea1] at xa
  rw [ed1] at xs
  rw [em1] at xm
  have HAD := hid (fun w a b (ha : Big w a x) (hb : Big w b y) => add_big ha hb nx ny)
  have HSB := hid (fun w a b (ha : Big w a x) (hb : Big w b y) => sub_big ha hb nx ny)
  have HML := hid (fun w a b (ha : Big w a x) (hb : Big w b y) => mul_big ha hb nx ny)
  have HCB := hid (fun w a b (ha : Big w a x) (hb : Big w b y) => cmp_big ha hb nx ny)
  have HBB := hid (fun w a (ha : Big w a x) => bits_big ha nx)
  have HF1 := hid (fun w u (h : Big w u (x + y)) => fits_big h ns ea1)
  have HF2 := hid (fun w u (h : Big w u (x - y)) => fits_big h nd ed1)
  have HF3 := hid (fun w u (h : Big w u (x * y)) => fits_big h np em1)
  have HSI := hid (fun w a (ha : Big w a x) => sign_big ha)
  unfold wideV at *
  generalize enc x = ex at *
  generalize enc y = ey at *
  have HK := hid known_true
  have HA := hid cx
  have HB := hid cy
  have HAa := hid xa
  have HAs := hid xs
  have HAm := hid xm
  have HAc := hid xc
  have HAg := hid xg
  have HAb := hid xb
  have HFa := hid fx
  have HFb := hid fy
  clear cx cy xa xs xm xc xg xb fx fy ea1 ed1 em1 hx hy h0 h1 ns nd np ny
  go_enter Try.func3, Try.ntmps3
  go_upto_region 4 with (first | ((with_reducible apply ld_rowP undW infoW); exact rfl; exact rfl; focus (repeat (first | assumption | ((with_reducible apply row_newc); (focus (first | rfl | (simp; done)))) | ((with_reducible apply row_newz); (focus (first | rfl | (simp; done)))) | (with_reducible apply row_same) | ((with_reducible apply row_else); (focus (first | (simp; done) | (simp; omega) | omega))) | (with_reducible apply row_alloc) | (with_reducible apply row_drew) | (with_reducible apply row_drewN) | ((with_reducible apply row_up); assumption)))) | ((with_reducible apply st_rowP infoW); exact rfl; exact rfl; focus (repeat (first | assumption | ((with_reducible apply row_newc); (focus (first | rfl | (simp; done)))) | ((with_reducible apply row_newz); (focus (first | rfl | (simp; done)))) | (with_reducible apply row_same) | ((with_reducible apply row_else); (focus (first | (simp; done) | (simp; omega) | omega))) | (with_reducible apply row_alloc) | (with_reducible apply row_drew) | (with_reducible apply row_drewN) | ((with_reducible apply row_up); assumption)))) | ((with_reducible apply st_rowZ infoW); exact rfl; exact rfl; focus (repeat (first | assumption | ((with_reducible apply row_newc); (focus (first | rfl | (simp; done)))) | ((with_reducible apply row_newz); (focus (first | rfl | (simp; done)))) | (with_reducible apply row_same) | ((with_reducible apply row_else); (focus (first | (simp; done) | (simp; omega) | omega))) | (with_reducible apply row_alloc) | (with_reducible apply row_drew) | (with_reducible apply row_drewN) | ((with_reducible apply row_up); assumption)))) | (go_at_call 10; refine (HK.out _).mono ?_; rintro e wK ⟨rfl, huK⟩; have hsK := huK.size) | (go_at_call 11; first | ((with_reducible refine (HA.out _ _ (by repeat (first | assumption | (with_reducible apply Up.of) | (with_reducible exact Below.refl _ _) | (with_reducible exact Up.refl _) | ((with_reducible apply bl_setRow); (focus (first | exact Nat.le_refl _ | (simp; done) | (simp; omega) | omega))) | (with_reducible apply below_drewN) | (with_reducible apply Below.drew) | ((with_reducible apply bl_alloc); (focus (first | exact Nat.le_refl _ | (simp; done) | (simp; omega) | omega))) | ((with_reducible apply bl_setCell); (focus (first | exact Nat.le_refl _ | (simp; done) | (simp; omega) | omega))) | ((with_reducible apply up_tr); assumption)))).mono ?_); rintro e wA ⟨rfl, huA⟩; have hsA := huA.size) | ((with_reducible refine (HB.out _ _ (by repeat (first | assumption | (with_reducible apply Up.of) | (with_reducible exact Below.refl _ _) | (with_reducible exact Up.refl _) | ((with_reducible apply bl_setRow); (focus (first | exact Nat.le_refl _ | (simp; done) | (simp; omega) | omega))) | (with_reducible apply below_drewN) | (with_reducible apply Below.drew) | ((with_reducible apply bl_alloc); (focus (first | exact Nat.le_refl _ | (simp; done) | (simp; omega) | omega))) | ((with_reducible apply bl_setCell); (focus (first | exact Nat.le_refl _ | (simp; done) | (simp; omega) | omega))) | ((with_reducible apply up_tr); assumption)))).mono ?_); rintro e wB ⟨rfl, huB⟩; have hsB := huB.size)))
  try simp only [Act.put]
  refine wp_world (fun wd => Row wd wB.heap.size 27 16 (limb ex) ∧ Row wd (wB.heap.size + 1) 27 16 (limb ey) ∧ Below w.heap.size w wd) ⟨(by (repeat (first | assumption | ((with_reducible apply row_newc); (focus (first | rfl | (simp; done)))) | ((with_reducible apply row_newz); (focus (first | rfl | (simp; done)))) | (with_reducible apply row_same) | ((with_reducible apply row_else); (focus (first | (simp; done) | (simp; omega) | omega))) | (with_reducible apply row_alloc) | (with_reducible apply row_drew) | (with_reducible apply row_drewN) | ((with_reducible apply row_up); assumption)))), (by (repeat (first | assumption | ((with_reducible apply row_newc); (focus (first | rfl | (simp; done)))) | ((with_reducible apply row_newz); (focus (first | rfl | (simp; done)))) | (with_reducible apply row_same) | ((with_reducible apply row_else); (focus (first | (simp; done) | (simp; omega) | omega))) | (with_reducible apply row_alloc) | (with_reducible apply row_drew) | (with_reducible apply row_drewN) | ((with_reducible apply row_up); assumption)))), (by repeat (first | assumption | (with_reducible apply Up.of) | (with_reducible exact Below.refl _ _) | (with_reducible exact Up.refl _) | ((with_reducible apply bl_setRow); (focus (first | exact Nat.le_refl _ | (simp; done) | (simp; omega) | omega))) | (with_reducible apply below_drewN) | (with_reducible apply Below.drew) | ((with_reducible apply bl_alloc); (focus (first | exact Nat.le_refl _ | (simp; done) | (simp; omega) | omega))) | ((with_reducible apply bl_setCell); (focus (first | exact Nat.le_refl _ | (simp; done) | (simp; omega) | omega))) | ((with_reducible apply up_tr); assumption)))⟩ (fun w0 hD => ?_)
  obtain ⟨rA, rB, rL⟩ := hD
  clear huK hsK huA hsA huB hsB
  generalize wB.heap.size = gA at *
  go_cut [19, 20] (fun t19 t20 wc => Two w gA (gA + 1) ex ey x y t19 t20 wc)
  case first =>
    refine wp_region_upS (S := (fun wq => Row wq gA 27 16 (limb ex) ∧ Row wq (gA + 1) 27 16 (limb ey) ∧ Below w.heap.size w wq)) (req := (fun j => j != 6 && j != 7)) (by kernel_rfl) (fun _ _ h hu => ⟨(h.1).up hu, (h.2.1).up hu, below_up (h.2.2) hu⟩) ⟨(by (repeat (first | assumption | ((with_reducible apply row_newc); (focus (first | rfl | (simp; done)))) | ((with_reducible apply row_newz); (focus (first | rfl | (simp; done)))) | (with_reducible apply row_same) | ((with_reducible apply row_else); (focus (first | (simp; done) | (simp; omega) | omega))) | (with_reducible apply row_alloc) | (with_reducible apply row_drew) | (with_reducible apply row_drewN) | ((with_reducible apply row_up); assumption)))), (by (repeat (first | assumption | ((with_reducible apply row_newc); (focus (first | rfl | (simp; done)))) | ((with_reducible apply row_newz); (focus (first | rfl | (simp; done)))) | (with_reducible apply row_same) | ((with_reducible apply row_else); (focus (first | (simp; done) | (simp; omega) | omega))) | (with_reducible apply row_alloc) | (with_reducible apply row_drew) | (with_reducible apply row_drewN) | ((with_reducible apply row_up); assumption)))), (by repeat (first | assumption | (with_reducible apply Up.of) | (with_reducible exact Below.refl _ _) | (with_reducible exact Up.refl _) | ((with_reducible apply bl_setRow); (focus (first | exact Nat.le_refl _ | (simp; done) | (simp; omega) | omega))) | (with_reducible apply below_drewN) | (with_reducible apply Below.drew) | ((with_reducible apply bl_alloc); (focus (first | exact Nat.le_refl _ | (simp; done) | (simp; omega) | omega))) | ((with_reducible apply bl_setCell); (focus (first | exact Nat.le_refl _ | (simp; done) | (simp; omega) | omega))) | ((with_reducible apply up_tr); assumption)))⟩ (fun wS hSS => ?_)
    have ⟨hS1, hS2, hSB⟩ := hSS
    refine wpAnyU_take (i := 0) (d := (some 39)) (v := _) rfl rfl (by kernel_rfl) (fun _ _ _ h => h) (fun _ _ h hu => ⟨(h.1).up hu, (h.2.1).up hu, below_up (h.2.2) hu⟩) hSS (Or.inl ⟨by rfl, fun w' hSw => yu_value (run_ld undW infoW _ rfl _ rfl hSw.1)⟩) ?_
    try simp only [Act.put, List.setIfInBounds_toArray, List.set_cons_zero, List.set_cons_succ]
    refine wpAnyU_take (i := 2) (d := (some 41)) (v := _) rfl rfl (by kernel_rfl) (fun _ _ _ h => h) (fun _ _ h hu => ⟨(h.1).up hu, (h.2.1).up hu, below_up (h.2.2) hu⟩) hSS (Or.inl ⟨by rfl, fun w' hSw => yu_value (run_ld undW infoW _ rfl _ rfl hSw.2.1)⟩) ?_
    try simp only [Act.put, List.setIfInBounds_toArray, List.set_cons_zero, List.set_cons_succ]
    have hU := Up.refl wS
    refine wpAnyU_ca2 (i := 1) (j := 4) (k := 5) (d := some 40) (dj := some 19) (dk := some 20) (by kernel_rfl) rfl rfl (by rfl) rfl rfl (by rfl) rfl rfl rfl (by rfl) rfl (fun _ _ h hu => ⟨(h.1).up hu, (h.2.1).up hu, below_up (h.2.2) hu⟩) (fun w' => by go_simp) (fun w' hw' => HFa.out _) (fun v1 w1 hw1 hr1 => ?_) (fun w1 hw1 => ?_) (fun w1 hw1 => ?_)
    · try simp only [Act.put, List.setIfInBounds_toArray, List.set_cons_zero, List.set_cons_succ]
      replace hU := hU.trans hw1
      obtain ⟨b1, a1, n1, c1, rfl⟩ := hr1.shape
      have hX := hr1
      refine wpAnyU_ca2 (i := 3) (j := 4) (k := 5) (d := some 42) (dj := some 19) (dk := some 20) (by kernel_rfl) rfl rfl (by rfl) rfl rfl (by rfl) rfl rfl rfl (by rfl) rfl (fun _ _ h hu => ⟨(h.1).up hu, (h.2.1).up hu, below_up (h.2.2) hu⟩) (fun w' => by go_simp) (fun w' hw' => HFb.out _) (fun v2 w2 hw2 hr2 => ?_) (fun w2 hw2 => ?_) (fun w2 hw2 => ?_)
      · try simp only [Act.put, List.setIfInBounds_toArray, List.set_cons_zero, List.set_cons_succ]
        replace hU := hU.trans hw2
        replace hX := hX.up hw2
        obtain ⟨b2, a2, n2, c2, rfl⟩ := hr2.shape
        have hY := hr2
        refine wpAnyU_a2 (j := 4) (k := 5) (dj := some 19) (dk := some 20) (by kernel_rfl) rfl rfl (by rfl) rfl rfl rfl (by rfl) rfl (fun _ _ h hu => ⟨(h.1).up hu, (h.2.1).up hu, below_up (h.2.2) hu⟩) (fun w3 hw3 => ?_) (fun w3 hw3 => ?_)
        · try simp only [Act.put, List.setIfInBounds_toArray, List.set_cons_zero, List.set_cons_succ]
          replace hU := hU.trans hw3
          replace hX := hX.up hw3
          replace hY := hY.up hw3
          have ha3 := Up.alloc w3 (.cells #[.bool false, .slice none 0 0] 30)
          have hp_le : wS.heap.size ≤ w3.heap.size := hU.size
          replace hU := hU.trans ha3
          replace hX := hX.up ha3
          replace hY := hY.up ha3
          have hp : Blk _ w3.heap.size 30 #[.bool false, .slice none 0 0] := blk_new (w := w3) rfl
          generalize ep : w3.heap.size = p' at hp hp_le ⊢
          refine wpAnyU_allocB (i := 5) (d := some 20) rfl rfl (by kernel_rfl) (by rfl) rfl (fun _ _ h hu => ⟨(h.1).up hu, (h.2.1).up hu, below_up (h.2.2) hu⟩) (fun w4 hw4 => ?_)
          try simp only [Act.put, List.setIfInBounds_toArray, List.set_cons_zero, List.set_cons_succ]
          replace hU := hU.trans hw4
          replace hX := hX.up hw4
          replace hY := hY.up hw4
          replace hp := hp.up hw4
          have ha4 := Up.alloc w4 (.cells #[.bool false, .slice none 0 0] 30)
          have hq_le : wS.heap.size ≤ w4.heap.size := hU.size
          have hne := hp.lt
          replace hU := hU.trans ha4
          replace hX := hX.up ha4
          replace hY := hY.up ha4
          replace hp := hp.up ha4
          have hq : Blk _ w4.heap.size 30 #[.bool false, .slice none 0 0] := blk_new (w := w4) rfl
          generalize eq : w4.heap.size = q' at hq hq_le hne ⊢
          refine wpAnyU_one (i := 6) rfl (by kernel_rfl) (by rfl) fun s1 hs1 => ?_
          have k1 := hp.up hs1
          refine wp_stB rfl rfl rfl rfl k1 rfl rfl (one2 _ _ _ _) ?_
          refine ⟨fun h => by simp at h, ?_⟩
          try simp only [Act.put, List.setIfInBounds_toArray]
          refine wpAnyU_one (i := 7) rfl (by kernel_rfl) (by rfl) fun s2 hs2 => ?_
          have k2 := ((hq.up hs1).row_other _ (show q' ≠ p' by omega)).up hs2
          refine wp_stB rfl rfl rfl rfl k2 rfl rfl (one2 _ _ _ _) ?_
          refine ⟨fun h => by simp at h, ?_⟩
          try simp only [Act.put, List.setIfInBounds_toArray]
          refine wpAnyU_done (by kernel_rfl) (fun wF huE => ?_) _
          have hR := sums4 hSS hU hs1 k1 hs2 k2 huE hX hY hp_le hq_le (by omega)
          go_wp2_with fail
          go_meet
          case rel => exact hR
        · try simp only [Act.put, List.setIfInBounds_toArray, List.set_cons_zero, List.set_cons_succ]
          replace hU := hU.trans hw3
          replace hX := hX.up hw3
          replace hY := hY.up hw3
          have ha3 := Up.alloc w3 (.cells #[.bool false, .slice none 0 0] 30)
          have hq_le : wS.heap.size ≤ w3.heap.size := hU.size
          replace hU := hU.trans ha3
          replace hX := hX.up ha3
          replace hY := hY.up ha3
          have hq : Blk _ w3.heap.size 30 #[.bool false, .slice none 0 0] := blk_new (w := w3) rfl
          generalize eq : w3.heap.size = q' at hq hq_le ⊢
          refine wpAnyU_allocB (i := 4) (d := some 19) rfl rfl (by kernel_rfl) (by rfl) rfl (fun _ _ h hu => ⟨(h.1).up hu, (h.2.1).up hu, below_up (h.2.2) hu⟩) (fun w6 hw6 => ?_)
          try simp only [Act.put, List.setIfInBounds_toArray, List.set_cons_zero, List.set_cons_succ]
          replace hU := hU.trans hw6
          replace hX := hX.up hw6
          replace hY := hY.up hw6
          replace hq := hq.up hw6
          have ha6 := Up.alloc w6 (.cells #[.bool false, .slice none 0 0] 30)
          have hp_le : wS.heap.size ≤ w6.heap.size := hU.size
          have hne := hq.lt
          replace hU := hU.trans ha6
          replace hX := hX.up ha6
          replace hY := hY.up ha6
          replace hq := hq.up ha6
          have hp : Blk _ w6.heap.size 30 #[.bool false, .slice none 0 0] := blk_new (w := w6) rfl
          generalize ep : w6.heap.size = p' at hp hp_le hne ⊢
          refine wpAnyU_one (i := 6) rfl (by kernel_rfl) (by rfl) fun s1 hs1 => ?_
          have k1 := hp.up hs1
          refine wp_stB rfl rfl rfl rfl k1 rfl rfl (one2 _ _ _ _) ?_
          refine ⟨fun h => by simp at h, ?_⟩
          try simp only [Act.put, List.setIfInBounds_toArray]
          refine wpAnyU_one (i := 7) rfl (by kernel_rfl) (by rfl) fun s2 hs2 => ?_
          have k2 := ((hq.up hs1).row_other _ (show q' ≠ p' by omega)).up hs2
          refine wp_stB rfl rfl rfl rfl k2 rfl rfl (one2 _ _ _ _) ?_
          refine ⟨fun h => by simp at h, ?_⟩
          try simp only [Act.put, List.setIfInBounds_toArray]
          refine wpAnyU_done (by kernel_rfl) (fun wF huE => ?_) _
          have hR := sums4 hSS hU hs1 k1 hs2 k2 huE hX hY hp_le hq_le (by omega)
          go_wp2_with fail
          go_meet
          case rel => exact hR
      · try simp only [Act.put, List.setIfInBounds_toArray, List.set_cons_zero, List.set_cons_succ]
        replace hU := hU.trans hw2
        replace hX := hX.up hw2
        have ha2 := Up.alloc w2 (.cells #[.bool false, .slice none 0 0] 30)
        have hp_le : wS.heap.size ≤ w2.heap.size := hU.size
        replace hU := hU.trans ha2
        replace hX := hX.up ha2
        have hp : Blk _ w2.heap.size 30 #[.bool false, .slice none 0 0] := blk_new (w := w2) rfl
        generalize ep : w2.heap.size = p' at hp hp_le ⊢
        refine wpAnyU_ca1 (i := 3) (j := 5) (d := some 42) (dj := some 20) (by kernel_rfl) rfl rfl (by rfl) rfl rfl (by rfl) rfl (fun _ _ h hu => ⟨(h.1).up hu, (h.2.1).up hu, below_up (h.2.2) hu⟩) (fun w' => by go_simp) (fun w' hw' => HFb.out _) (fun v8 w8 hw8 hr8 => ?_) (fun w8 hw8 => ?_)
        · try simp only [Act.put, List.setIfInBounds_toArray, List.set_cons_zero, List.set_cons_succ]
          replace hU := hU.trans hw8
          replace hX := hX.up hw8
          replace hp := hp.up hw8
          obtain ⟨b8, a8, n8, c8, rfl⟩ := hr8.shape
          have hY := hr8
          refine wpAnyU_allocB (i := 5) (d := some 20) rfl rfl (by kernel_rfl) (by rfl) rfl (fun _ _ h hu => ⟨(h.1).up hu, (h.2.1).up hu, below_up (h.2.2) hu⟩) (fun w9 hw9 => ?_)
          try simp only [Act.put, List.setIfInBounds_toArray, List.set_cons_zero, List.set_cons_succ]
          replace hU := hU.trans hw9
          replace hX := hX.up hw9
          replace hY := hY.up hw9
          replace hp := hp.up hw9
          have ha9 := Up.alloc w9 (.cells #[.bool false, .slice none 0 0] 30)
          have hq_le : wS.heap.size ≤ w9.heap.size := hU.size
          have hne := hp.lt
          replace hU := hU.trans ha9
          replace hX := hX.up ha9
          replace hY := hY.up ha9
          replace hp := hp.up ha9
          have hq : Blk _ w9.heap.size 30 #[.bool false, .slice none 0 0] := blk_new (w := w9) rfl
          generalize eq : w9.heap.size = q' at hq hq_le hne ⊢
          refine wpAnyU_one (i := 6) rfl (by kernel_rfl) (by rfl) fun s1 hs1 => ?_
          have k1 := hp.up hs1
          refine wp_stB rfl rfl rfl rfl k1 rfl rfl (one2 _ _ _ _) ?_
          refine ⟨fun h => by simp at h, ?_⟩
          try simp only [Act.put, List.setIfInBounds_toArray]
          refine wpAnyU_one (i := 7) rfl (by kernel_rfl) (by rfl) fun s2 hs2 => ?_
          have k2 := ((hq.up hs1).row_other _ (show q' ≠ p' by omega)).up hs2
          refine wp_stB rfl rfl rfl rfl k2 rfl rfl (one2 _ _ _ _) ?_
          refine ⟨fun h => by simp at h, ?_⟩
          try simp only [Act.put, List.setIfInBounds_toArray]
          refine wpAnyU_done (by kernel_rfl) (fun wF huE => ?_) _
          have hR := sums4 hSS hU hs1 k1 hs2 k2 huE hX hY hp_le hq_le (by omega)
          go_wp2_with fail
          go_meet
          case rel => exact hR
        · try simp only [Act.put, List.setIfInBounds_toArray, List.set_cons_zero, List.set_cons_succ]
          replace hU := hU.trans hw8
          replace hX := hX.up hw8
          replace hp := hp.up hw8
          have ha8 := Up.alloc w8 (.cells #[.bool false, .slice none 0 0] 30)
          have hq_le : wS.heap.size ≤ w8.heap.size := hU.size
          have hne := hp.lt
          replace hU := hU.trans ha8
          replace hX := hX.up ha8
          replace hp := hp.up ha8
          have hq : Blk _ w8.heap.size 30 #[.bool false, .slice none 0 0] := blk_new (w := w8) rfl
          generalize eq : w8.heap.size = q' at hq hq_le hne ⊢
          refine wpAnyU_callE (i := 3) (d := some 42) rfl rfl (by kernel_rfl) (by rfl) (fun _ _ h hu => ⟨(h.1).up hu, (h.2.1).up hu, below_up (h.2.2) hu⟩) (fun w' => by go_simp) (fun w' hw' => HFb.out _) (fun v11 w11 hw11 hr11 => ?_)
          try simp only [Act.put, List.setIfInBounds_toArray, List.set_cons_zero, List.set_cons_succ]
          replace hU := hU.trans hw11
          replace hX := hX.up hw11
          replace hp := hp.up hw11
          replace hq := hq.up hw11
          obtain ⟨b11, a11, n11, c11, rfl⟩ := hr11.shape
          have hY := hr11
          refine wpAnyU_one (i := 6) rfl (by kernel_rfl) (by rfl) fun s1 hs1 => ?_
          have k1 := hp.up hs1
          refine wp_stB rfl rfl rfl rfl k1 rfl rfl (one2 _ _ _ _) ?_
          refine ⟨fun h => by simp at h, ?_⟩
          try simp only [Act.put, List.setIfInBounds_toArray]
          refine wpAnyU_one (i := 7) rfl (by kernel_rfl) (by rfl) fun s2 hs2 => ?_
          have k2 := ((hq.up hs1).row_other _ (show q' ≠ p' by omega)).up hs2
          refine wp_stB rfl rfl rfl rfl k2 rfl rfl (one2 _ _ _ _) ?_
          refine ⟨fun h => by simp at h, ?_⟩
          try simp only [Act.put, List.setIfInBounds_toArray]
          refine wpAnyU_done (by kernel_rfl) (fun wF huE => ?_) _
          have hR := sums4 hSS hU hs1 k1 hs2 k2 huE hX hY hp_le hq_le (by omega)
          go_wp2_with fail
          go_meet
          case rel => exact hR
      · try simp only [Act.put, List.setIfInBounds_toArray, List.set_cons_zero, List.set_cons_succ]
        replace hU := hU.trans hw2
        replace hX := hX.up hw2
        have ha2 := Up.alloc w2 (.cells #[.bool false, .slice none 0 0] 30)
        have hq_le : wS.heap.size ≤ w2.heap.size := hU.size
        replace hU := hU.trans ha2
        replace hX := hX.up ha2
        have hq : Blk _ w2.heap.size 30 #[.bool false, .slice none 0 0] := blk_new (w := w2) rfl
        generalize eq : w2.heap.size = q' at hq hq_le ⊢
        refine wpAnyU_ca1 (i := 3) (j := 4) (d := some 42) (dj := some 19) (by kernel_rfl) rfl rfl (by rfl) rfl rfl (by rfl) rfl (fun _ _ h hu => ⟨(h.1).up hu, (h.2.1).up hu, below_up (h.2.2) hu⟩) (fun w' => by go_simp) (fun w' hw' => HFb.out _) (fun v13 w13 hw13 hr13 => ?_) (fun w13 hw13 => ?_)
        · try simp only [Act.put, List.setIfInBounds_toArray, List.set_cons_zero, List.set_cons_succ]
          replace hU := hU.trans hw13
          replace hX := hX.up hw13
          replace hq := hq.up hw13
          obtain ⟨b13, a13, n13, c13, rfl⟩ := hr13.shape
          have hY := hr13
          refine wpAnyU_allocB (i := 4) (d := some 19) rfl rfl (by kernel_rfl) (by rfl) rfl (fun _ _ h hu => ⟨(h.1).up hu, (h.2.1).up hu, below_up (h.2.2) hu⟩) (fun w14 hw14 => ?_)
          try simp only [Act.put, List.setIfInBounds_toArray, List.set_cons_zero, List.set_cons_succ]
          replace hU := hU.trans hw14
          replace hX := hX.up hw14
          replace hY := hY.up hw14
          replace hq := hq.up hw14
          have ha14 := Up.alloc w14 (.cells #[.bool false, .slice none 0 0] 30)
          have hp_le : wS.heap.size ≤ w14.heap.size := hU.size
          have hne := hq.lt
          replace hU := hU.trans ha14
          replace hX := hX.up ha14
          replace hY := hY.up ha14
          replace hq := hq.up ha14
          have hp : Blk _ w14.heap.size 30 #[.bool false, .slice none 0 0] := blk_new (w := w14) rfl
          generalize ep : w14.heap.size = p' at hp hp_le hne ⊢
          refine wpAnyU_one (i := 6) rfl (by kernel_rfl) (by rfl) fun s1 hs1 => ?_
          have k1 := hp.up hs1
          refine wp_stB rfl rfl rfl rfl k1 rfl rfl (one2 _ _ _ _) ?_
          refine ⟨fun h => by simp at h, ?_⟩
          try simp only [Act.put, List.setIfInBounds_toArray]
          refine wpAnyU_one (i := 7) rfl (by kernel_rfl) (by rfl) fun s2 hs2 => ?_
          have k2 := ((hq.up hs1).row_other _ (show q' ≠ p' by omega)).up hs2
          refine wp_stB rfl rfl rfl rfl k2 rfl rfl (one2 _ _ _ _) ?_
          refine ⟨fun h => by simp at h, ?_⟩
          try simp only [Act.put, List.setIfInBounds_toArray]
          refine wpAnyU_done (by kernel_rfl) (fun wF huE => ?_) _
          have hR := sums4 hSS hU hs1 k1 hs2 k2 huE hX hY hp_le hq_le (by omega)
          go_wp2_with fail
          go_meet
          case rel => exact hR
        · try simp only [Act.put, List.setIfInBounds_toArray, List.set_cons_zero, List.set_cons_succ]
          replace hU := hU.trans hw13
          replace hX := hX.up hw13
          replace hq := hq.up hw13
          have ha13 := Up.alloc w13 (.cells #[.bool false, .slice none 0 0] 30)
          have hp_le : wS.heap.size ≤ w13.heap.size := hU.size
          have hne := hq.lt
          replace hU := hU.trans ha13
          replace hX := hX.up ha13
          replace hq := hq.up ha13
          have hp : Blk _ w13.heap.size 30 #[.bool false, .slice none 0 0] := blk_new (w := w13) rfl
          generalize ep : w13.heap.size = p' at hp hp_le hne ⊢
          refine wpAnyU_callE (i := 3) (d := some 42) rfl rfl (by kernel_rfl) (by rfl) (fun _ _ h hu => ⟨(h.1).up hu, (h.2.1).up hu, below_up (h.2.2) hu⟩) (fun w' => by go_simp) (fun w' hw' => HFb.out _) (fun v16 w16 hw16 hr16 => ?_)
          try simp only [Act.put, List.setIfInBounds_toArray, List.set_cons_zero, List.set_cons_succ]
          replace hU := hU.trans hw16
          replace hX := hX.up hw16
          replace hp := hp.up hw16
          replace hq := hq.up hw16
          obtain ⟨b16, a16, n16, c16, rfl⟩ := hr16.shape
          have hY := hr16
          refine wpAnyU_one (i := 6) rfl (by kernel_rfl) (by rfl) fun s1 hs1 => ?_
          have k1 := hp.up hs1
          refine wp_stB rfl rfl rfl rfl k1 rfl rfl (one2 _ _ _ _) ?_
          refine ⟨fun h => by simp at h, ?_⟩
          try simp only [Act.put, List.setIfInBounds_toArray]
          refine wpAnyU_one (i := 7) rfl (by kernel_rfl) (by rfl) fun s2 hs2 => ?_
          have k2 := ((hq.up hs1).row_other _ (show q' ≠ p' by omega)).up hs2
          refine wp_stB rfl rfl rfl rfl k2 rfl rfl (one2 _ _ _ _) ?_
          refine ⟨fun h => by simp at h, ?_⟩
          try simp only [Act.put, List.setIfInBounds_toArray]
          refine wpAnyU_done (by kernel_rfl) (fun wF huE => ?_) _
          have hR := sums4 hSS hU hs1 k1 hs2 k2 huE hX hY hp_le hq_le (by omega)
          go_wp2_with fail
          go_meet
          case rel => exact hR
    · try simp only [Act.put, List.setIfInBounds_toArray, List.set_cons_zero, List.set_cons_succ]
      replace hU := hU.trans hw1
      have ha1 := Up.alloc w1 (.cells #[.bool false, .slice none 0 0] 30)
      have hp_le : wS.heap.size ≤ w1.heap.size := hU.size
      replace hU := hU.trans ha1
      have hp : Blk _ w1.heap.size 30 #[.bool false, .slice none 0 0] := blk_new (w := w1) rfl
      generalize ep : w1.heap.size = p' at hp hp_le ⊢
      refine wpAnyU_ca1 (i := 1) (j := 5) (d := some 40) (dj := some 20) (by kernel_rfl) rfl rfl (by rfl) rfl rfl (by rfl) rfl (fun _ _ h hu => ⟨(h.1).up hu, (h.2.1).up hu, below_up (h.2.2) hu⟩) (fun w' => by go_simp) (fun w' hw' => HFa.out _) (fun v18 w18 hw18 hr18 => ?_) (fun w18 hw18 => ?_)
      · try simp only [Act.put, List.setIfInBounds_toArray, List.set_cons_zero, List.set_cons_succ]
        replace hU := hU.trans hw18
        replace hp := hp.up hw18
        obtain ⟨b18, a18, n18, c18, rfl⟩ := hr18.shape
        have hX := hr18
        refine wpAnyU_ca1 (i := 3) (j := 5) (d := some 42) (dj := some 20) (by kernel_rfl) rfl rfl (by rfl) rfl rfl (by rfl) rfl (fun _ _ h hu => ⟨(h.1).up hu, (h.2.1).up hu, below_up (h.2.2) hu⟩) (fun w' => by go_simp) (fun w' hw' => HFb.out _) (fun v19 w19 hw19 hr19 => ?_) (fun w19 hw19 => ?_)
        · try simp only [Act.put, List.setIfInBounds_toArray, List.set_cons_zero, List.set_cons_succ]
          replace hU := hU.trans hw19
          replace hX := hX.up hw19
          replace hp := hp.up hw19
          obtain ⟨b19, a19, n19, c19, rfl⟩ := hr19.shape
          have hY := hr19
          refine wpAnyU_allocB (i := 5) (d := some 20) rfl rfl (by kernel_rfl) (by rfl) rfl (fun _ _ h hu => ⟨(h.1).up hu, (h.2.1).up hu, below_up (h.2.2) hu⟩) (fun w20 hw20 => ?_)
          try simp only [Act.put, List.setIfInBounds_toArray, List.set_cons_zero, List.set_cons_succ]
          replace hU := hU.trans hw20
          replace hX := hX.up hw20
          replace hY := hY.up hw20
          replace hp := hp.up hw20
          have ha20 := Up.alloc w20 (.cells #[.bool false, .slice none 0 0] 30)
          have hq_le : wS.heap.size ≤ w20.heap.size := hU.size
          have hne := hp.lt
          replace hU := hU.trans ha20
          replace hX := hX.up ha20
          replace hY := hY.up ha20
          replace hp := hp.up ha20
          have hq : Blk _ w20.heap.size 30 #[.bool false, .slice none 0 0] := blk_new (w := w20) rfl
          generalize eq : w20.heap.size = q' at hq hq_le hne ⊢
          refine wpAnyU_one (i := 6) rfl (by kernel_rfl) (by rfl) fun s1 hs1 => ?_
          have k1 := hp.up hs1
          refine wp_stB rfl rfl rfl rfl k1 rfl rfl (one2 _ _ _ _) ?_
          refine ⟨fun h => by simp at h, ?_⟩
          try simp only [Act.put, List.setIfInBounds_toArray]
          refine wpAnyU_one (i := 7) rfl (by kernel_rfl) (by rfl) fun s2 hs2 => ?_
          have k2 := ((hq.up hs1).row_other _ (show q' ≠ p' by omega)).up hs2
          refine wp_stB rfl rfl rfl rfl k2 rfl rfl (one2 _ _ _ _) ?_
          refine ⟨fun h => by simp at h, ?_⟩
          try simp only [Act.put, List.setIfInBounds_toArray]
          refine wpAnyU_done (by kernel_rfl) (fun wF huE => ?_) _
          have hR := sums4 hSS hU hs1 k1 hs2 k2 huE hX hY hp_le hq_le (by omega)
          go_wp2_with fail
          go_meet
          case rel => exact hR
        · try simp only [Act.put, List.setIfInBounds_toArray, List.set_cons_zero, List.set_cons_succ]
          replace hU := hU.trans hw19
          replace hX := hX.up hw19
          replace hp := hp.up hw19
          have ha19 := Up.alloc w19 (.cells #[.bool false, .slice none 0 0] 30)
          have hq_le : wS.heap.size ≤ w19.heap.size := hU.size
          have hne := hp.lt
          replace hU := hU.trans ha19
          replace hX := hX.up ha19
          replace hp := hp.up ha19
          have hq : Blk _ w19.heap.size 30 #[.bool false, .slice none 0 0] := blk_new (w := w19) rfl
          generalize eq : w19.heap.size = q' at hq hq_le hne ⊢
          refine wpAnyU_callE (i := 3) (d := some 42) rfl rfl (by kernel_rfl) (by rfl) (fun _ _ h hu => ⟨(h.1).up hu, (h.2.1).up hu, below_up (h.2.2) hu⟩) (fun w' => by go_simp) (fun w' hw' => HFb.out _) (fun v22 w22 hw22 hr22 => ?_)
          try simp only [Act.put, List.setIfInBounds_toArray, List.set_cons_zero, List.set_cons_succ]
          replace hU := hU.trans hw22
          replace hX := hX.up hw22
          replace hp := hp.up hw22
          replace hq := hq.up hw22
          obtain ⟨b22, a22, n22, c22, rfl⟩ := hr22.shape
          have hY := hr22
          refine wpAnyU_one (i := 6) rfl (by kernel_rfl) (by rfl) fun s1 hs1 => ?_
          have k1 := hp.up hs1
          refine wp_stB rfl rfl rfl rfl k1 rfl rfl (one2 _ _ _ _) ?_
          refine ⟨fun h => by simp at h, ?_⟩
          try simp only [Act.put, List.setIfInBounds_toArray]
          refine wpAnyU_one (i := 7) rfl (by kernel_rfl) (by rfl) fun s2 hs2 => ?_
          have k2 := ((hq.up hs1).row_other _ (show q' ≠ p' by omega)).up hs2
          refine wp_stB rfl rfl rfl rfl k2 rfl rfl (one2 _ _ _ _) ?_
          refine ⟨fun h => by simp at h, ?_⟩
          try simp only [Act.put, List.setIfInBounds_toArray]
          refine wpAnyU_done (by kernel_rfl) (fun wF huE => ?_) _
          have hR := sums4 hSS hU hs1 k1 hs2 k2 huE hX hY hp_le hq_le (by omega)
          go_wp2_with fail
          go_meet
          case rel => exact hR
      · try simp only [Act.put, List.setIfInBounds_toArray, List.set_cons_zero, List.set_cons_succ]
        replace hU := hU.trans hw18
        replace hp := hp.up hw18
        have ha18 := Up.alloc w18 (.cells #[.bool false, .slice none 0 0] 30)
        have hq_le : wS.heap.size ≤ w18.heap.size := hU.size
        have hne := hp.lt
        replace hU := hU.trans ha18
        replace hp := hp.up ha18
        have hq : Blk _ w18.heap.size 30 #[.bool false, .slice none 0 0] := blk_new (w := w18) rfl
        generalize eq : w18.heap.size = q' at hq hq_le hne ⊢
        refine wpAnyU_callE (i := 1) (d := some 40) rfl rfl (by kernel_rfl) (by rfl) (fun _ _ h hu => ⟨(h.1).up hu, (h.2.1).up hu, below_up (h.2.2) hu⟩) (fun w' => by go_simp) (fun w' hw' => HFa.out _) (fun v24 w24 hw24 hr24 => ?_)
        try simp only [Act.put, List.setIfInBounds_toArray, List.set_cons_zero, List.set_cons_succ]
        replace hU := hU.trans hw24
        replace hp := hp.up hw24
        replace hq := hq.up hw24
        obtain ⟨b24, a24, n24, c24, rfl⟩ := hr24.shape
        have hX := hr24
        refine wpAnyU_callE (i := 3) (d := some 42) rfl rfl (by kernel_rfl) (by rfl) (fun _ _ h hu => ⟨(h.1).up hu, (h.2.1).up hu, below_up (h.2.2) hu⟩) (fun w' => by go_simp) (fun w' hw' => HFb.out _) (fun v25 w25 hw25 hr25 => ?_)
        try simp only [Act.put, List.setIfInBounds_toArray, List.set_cons_zero, List.set_cons_succ]
        replace hU := hU.trans hw25
        replace hX := hX.up hw25
        replace hp := hp.up hw25
        replace hq := hq.up hw25
        obtain ⟨b25, a25, n25, c25, rfl⟩ := hr25.shape
        have hY := hr25
        refine wpAnyU_one (i := 6) rfl (by kernel_rfl) (by rfl) fun s1 hs1 => ?_
        have k1 := hp.up hs1
        refine wp_stB rfl rfl rfl rfl k1 rfl rfl (one2 _ _ _ _) ?_
        refine ⟨fun h => by simp at h, ?_⟩
        try simp only [Act.put, List.setIfInBounds_toArray]
        refine wpAnyU_one (i := 7) rfl (by kernel_rfl) (by rfl) fun s2 hs2 => ?_
        have k2 := ((hq.up hs1).row_other _ (show q' ≠ p' by omega)).up hs2
        refine wp_stB rfl rfl rfl rfl k2 rfl rfl (one2 _ _ _ _) ?_
        refine ⟨fun h => by simp at h, ?_⟩
        try simp only [Act.put, List.setIfInBounds_toArray]
        refine wpAnyU_done (by kernel_rfl) (fun wF huE => ?_) _
        have hR := sums4 hSS hU hs1 k1 hs2 k2 huE hX hY hp_le hq_le (by omega)
        go_wp2_with fail
        go_meet
        case rel => exact hR
    · try simp only [Act.put, List.setIfInBounds_toArray, List.set_cons_zero, List.set_cons_succ]
      replace hU := hU.trans hw1
      have ha1 := Up.alloc w1 (.cells #[.bool false, .slice none 0 0] 30)
      have hq_le : wS.heap.size ≤ w1.heap.size := hU.size
      replace hU := hU.trans ha1
      have hq : Blk _ w1.heap.size 30 #[.bool false, .slice none 0 0] := blk_new (w := w1) rfl
      generalize eq : w1.heap.size = q' at hq hq_le ⊢
      refine wpAnyU_ca1 (i := 1) (j := 4) (d := some 40) (dj := some 19) (by kernel_rfl) rfl rfl (by rfl) rfl rfl (by rfl) rfl (fun _ _ h hu => ⟨(h.1).up hu, (h.2.1).up hu, below_up (h.2.2) hu⟩) (fun w' => by go_simp) (fun w' hw' => HFa.out _) (fun v27 w27 hw27 hr27 => ?_) (fun w27 hw27 => ?_)
      · try simp only [Act.put, List.setIfInBounds_toArray, List.set_cons_zero, List.set_cons_succ]
        replace hU := hU.trans hw27
        replace hq := hq.up hw27
        obtain ⟨b27, a27, n27, c27, rfl⟩ := hr27.shape
        have hX := hr27
        refine wpAnyU_ca1 (i := 3) (j := 4) (d := some 42) (dj := some 19) (by kernel_rfl) rfl rfl (by rfl) rfl rfl (by rfl) rfl (fun _ _ h hu => ⟨(h.1).up hu, (h.2.1).up hu, below_up (h.2.2) hu⟩) (fun w' => by go_simp) (fun w' hw' => HFb.out _) (fun v28 w28 hw28 hr28 => ?_) (fun w28 hw28 => ?_)
        · try simp only [Act.put, List.setIfInBounds_toArray, List.set_cons_zero, List.set_cons_succ]
          replace hU := hU.trans hw28
          replace hX := hX.up hw28
          replace hq := hq.up hw28
          obtain ⟨b28, a28, n28, c28, rfl⟩ := hr28.shape
          have hY := hr28
          refine wpAnyU_allocB (i := 4) (d := some 19) rfl rfl (by kernel_rfl) (by rfl) rfl (fun _ _ h hu => ⟨(h.1).up hu, (h.2.1).up hu, below_up (h.2.2) hu⟩) (fun w29 hw29 => ?_)
          try simp only [Act.put, List.setIfInBounds_toArray, List.set_cons_zero, List.set_cons_succ]
          replace hU := hU.trans hw29
          replace hX := hX.up hw29
          replace hY := hY.up hw29
          replace hq := hq.up hw29
          have ha29 := Up.alloc w29 (.cells #[.bool false, .slice none 0 0] 30)
          have hp_le : wS.heap.size ≤ w29.heap.size := hU.size
          have hne := hq.lt
          replace hU := hU.trans ha29
          replace hX := hX.up ha29
          replace hY := hY.up ha29
          replace hq := hq.up ha29
          have hp : Blk _ w29.heap.size 30 #[.bool false, .slice none 0 0] := blk_new (w := w29) rfl
          generalize ep : w29.heap.size = p' at hp hp_le hne ⊢
          refine wpAnyU_one (i := 6) rfl (by kernel_rfl) (by rfl) fun s1 hs1 => ?_
          have k1 := hp.up hs1
          refine wp_stB rfl rfl rfl rfl k1 rfl rfl (one2 _ _ _ _) ?_
          refine ⟨fun h => by simp at h, ?_⟩
          try simp only [Act.put, List.setIfInBounds_toArray]
          refine wpAnyU_one (i := 7) rfl (by kernel_rfl) (by rfl) fun s2 hs2 => ?_
          have k2 := ((hq.up hs1).row_other _ (show q' ≠ p' by omega)).up hs2
          refine wp_stB rfl rfl rfl rfl k2 rfl rfl (one2 _ _ _ _) ?_
          refine ⟨fun h => by simp at h, ?_⟩
          try simp only [Act.put, List.setIfInBounds_toArray]
          refine wpAnyU_done (by kernel_rfl) (fun wF huE => ?_) _
          have hR := sums4 hSS hU hs1 k1 hs2 k2 huE hX hY hp_le hq_le (by omega)
          go_wp2_with fail
          go_meet
          case rel => exact hR
        · try simp only [Act.put, List.setIfInBounds_toArray, List.set_cons_zero, List.set_cons_succ]
          replace hU := hU.trans hw28
          replace hX := hX.up hw28
          replace hq := hq.up hw28
          have ha28 := Up.alloc w28 (.cells #[.bool false, .slice none 0 0] 30)
          have hp_le : wS.heap.size ≤ w28.heap.size := hU.size
          have hne := hq.lt
          replace hU := hU.trans ha28
          replace hX := hX.up ha28
          replace hq := hq.up ha28
          have hp : Blk _ w28.heap.size 30 #[.bool false, .slice none 0 0] := blk_new (w := w28) rfl
          generalize ep : w28.heap.size = p' at hp hp_le hne ⊢
          refine wpAnyU_callE (i := 3) (d := some 42) rfl rfl (by kernel_rfl) (by rfl) (fun _ _ h hu => ⟨(h.1).up hu, (h.2.1).up hu, below_up (h.2.2) hu⟩) (fun w' => by go_simp) (fun w' hw' => HFb.out _) (fun v31 w31 hw31 hr31 => ?_)
          try simp only [Act.put, List.setIfInBounds_toArray, List.set_cons_zero, List.set_cons_succ]
          replace hU := hU.trans hw31
          replace hX := hX.up hw31
          replace hp := hp.up hw31
          replace hq := hq.up hw31
          obtain ⟨b31, a31, n31, c31, rfl⟩ := hr31.shape
          have hY := hr31
          refine wpAnyU_one (i := 6) rfl (by kernel_rfl) (by rfl) fun s1 hs1 => ?_
          have k1 := hp.up hs1
          refine wp_stB rfl rfl rfl rfl k1 rfl rfl (one2 _ _ _ _) ?_
          refine ⟨fun h => by simp at h, ?_⟩
          try simp only [Act.put, List.setIfInBounds_toArray]
          refine wpAnyU_one (i := 7) rfl (by kernel_rfl) (by rfl) fun s2 hs2 => ?_
          have k2 := ((hq.up hs1).row_other _ (show q' ≠ p' by omega)).up hs2
          refine wp_stB rfl rfl rfl rfl k2 rfl rfl (one2 _ _ _ _) ?_
          refine ⟨fun h => by simp at h, ?_⟩
          try simp only [Act.put, List.setIfInBounds_toArray]
          refine wpAnyU_done (by kernel_rfl) (fun wF huE => ?_) _
          have hR := sums4 hSS hU hs1 k1 hs2 k2 huE hX hY hp_le hq_le (by omega)
          go_wp2_with fail
          go_meet
          case rel => exact hR
      · try simp only [Act.put, List.setIfInBounds_toArray, List.set_cons_zero, List.set_cons_succ]
        replace hU := hU.trans hw27
        replace hq := hq.up hw27
        have ha27 := Up.alloc w27 (.cells #[.bool false, .slice none 0 0] 30)
        have hp_le : wS.heap.size ≤ w27.heap.size := hU.size
        have hne := hq.lt
        replace hU := hU.trans ha27
        replace hq := hq.up ha27
        have hp : Blk _ w27.heap.size 30 #[.bool false, .slice none 0 0] := blk_new (w := w27) rfl
        generalize ep : w27.heap.size = p' at hp hp_le hne ⊢
        refine wpAnyU_callE (i := 1) (d := some 40) rfl rfl (by kernel_rfl) (by rfl) (fun _ _ h hu => ⟨(h.1).up hu, (h.2.1).up hu, below_up (h.2.2) hu⟩) (fun w' => by go_simp) (fun w' hw' => HFa.out _) (fun v33 w33 hw33 hr33 => ?_)
        try simp only [Act.put, List.setIfInBounds_toArray, List.set_cons_zero, List.set_cons_succ]
        replace hU := hU.trans hw33
        replace hp := hp.up hw33
        replace hq := hq.up hw33
        obtain ⟨b33, a33, n33, c33, rfl⟩ := hr33.shape
        have hX := hr33
        refine wpAnyU_callE (i := 3) (d := some 42) rfl rfl (by kernel_rfl) (by rfl) (fun _ _ h hu => ⟨(h.1).up hu, (h.2.1).up hu, below_up (h.2.2) hu⟩) (fun w' => by go_simp) (fun w' hw' => HFb.out _) (fun v34 w34 hw34 hr34 => ?_)
        try simp only [Act.put, List.setIfInBounds_toArray, List.set_cons_zero, List.set_cons_succ]
        replace hU := hU.trans hw34
        replace hX := hX.up hw34
        replace hp := hp.up hw34
        replace hq := hq.up hw34
        obtain ⟨b34, a34, n34, c34, rfl⟩ := hr34.shape
        have hY := hr34
        refine wpAnyU_one (i := 6) rfl (by kernel_rfl) (by rfl) fun s1 hs1 => ?_
        have k1 := hp.up hs1
        refine wp_stB rfl rfl rfl rfl k1 rfl rfl (one2 _ _ _ _) ?_
        refine ⟨fun h => by simp at h, ?_⟩
        try simp only [Act.put, List.setIfInBounds_toArray]
        refine wpAnyU_one (i := 7) rfl (by kernel_rfl) (by rfl) fun s2 hs2 => ?_
        have k2 := ((hq.up hs1).row_other _ (show q' ≠ p' by omega)).up hs2
        refine wp_stB rfl rfl rfl rfl k2 rfl rfl (one2 _ _ _ _) ?_
        refine ⟨fun h => by simp at h, ?_⟩
        try simp only [Act.put, List.setIfInBounds_toArray]
        refine wpAnyU_done (by kernel_rfl) (fun wF huE => ?_) _
        have hR := sums4 hSS hU hs1 k1 hs2 k2 huE hX hY hp_le hq_le (by omega)
        go_wp2_with fail
        go_meet
        case rel => exact hR
  case rest =>
    clear rA rB rL
    obtain ⟨gX, gY, va, vb, rfl, rfl, ⟨b4, a4, n4, c4, rfl, dX⟩, ⟨b5, a5, n5, c5, rfl, dY⟩, hX, hY, rA, rB, rL⟩ := hcut
    have k1 := rA.lt
    have k2 := rB.lt
    go_upto_region 6 with (first | ((with_reducible apply ld_rowP undW infoW); exact rfl; exact rfl; focus (repeat (first | assumption | ((with_reducible apply row_newc); (focus (first | rfl | (simp; done)))) | ((with_reducible apply row_newz); (focus (first | rfl | (simp; done)))) | (with_reducible apply row_same) | ((with_reducible apply row_else); (focus (first | (simp; done) | (simp; omega) | omega))) | (with_reducible apply row_alloc) | (with_reducible apply row_drew) | (with_reducible apply row_drewN) | ((with_reducible apply row_up); assumption)))) | ((with_reducible apply st_rowP infoW); exact rfl; exact rfl; focus (repeat (first | assumption | ((with_reducible apply row_newc); (focus (first | rfl | (simp; done)))) | ((with_reducible apply row_newz); (focus (first | rfl | (simp; done)))) | (with_reducible apply row_same) | ((with_reducible apply row_else); (focus (first | (simp; done) | (simp; omega) | omega))) | (with_reducible apply row_alloc) | (with_reducible apply row_drew) | (with_reducible apply row_drewN) | ((with_reducible apply row_up); assumption)))) | ((with_reducible apply st_rowZ infoW); exact rfl; exact rfl; focus (repeat (first | assumption | ((with_reducible apply row_newc); (focus (first | rfl | (simp; done)))) | ((with_reducible apply row_newz); (focus (first | rfl | (simp; done)))) | (with_reducible apply row_same) | ((with_reducible apply row_else); (focus (first | (simp; done) | (simp; omega) | omega))) | (with_reducible apply row_alloc) | (with_reducible apply row_drew) | (with_reducible apply row_drewN) | ((with_reducible apply row_up); assumption)))) | (go_at_call 13; (with_reducible refine (HAa.out _).mono ?_); rintro e v0 ⟨rfl, hu⟩; have hs := hu.size))
    try simp only [Act.put]
    refine wp_world (fun wd => Row wd v0.heap.size 27 16 (limb oa) ∧ Up wc wd) ⟨(by (repeat (first | assumption | ((with_reducible apply row_newc); (focus (first | rfl | (simp; done)))) | ((with_reducible apply row_newz); (focus (first | rfl | (simp; done)))) | (with_reducible apply row_same) | ((with_reducible apply row_else); (focus (first | (simp; done) | (simp; omega) | omega))) | (with_reducible apply row_alloc) | (with_reducible apply row_drew) | (with_reducible apply row_drewN) | ((with_reducible apply row_up); assumption)))), (by repeat (first | assumption | (with_reducible apply Up.of) | (with_reducible exact Below.refl _ _) | (with_reducible exact Up.refl _) | ((with_reducible apply bl_setRow); (focus (first | exact Nat.le_refl _ | (simp; done) | (simp; omega) | omega))) | (with_reducible apply below_drewN) | (with_reducible apply Below.drew) | ((with_reducible apply bl_alloc); (focus (first | exact Nat.le_refl _ | (simp; done) | (simp; omega) | omega))) | ((with_reducible apply bl_setCell); (focus (first | exact Nat.le_refl _ | (simp; done) | (simp; omega) | omega))) | ((with_reducible apply up_tr); assumption)))⟩ (fun x0 hD => ?_)
    obtain ⟨rD, hux⟩ := hD
    clear k1 k2 hu hs
    replace rA := rA.up hux
    replace rB := rB.up hux
    replace dX := dX.up hux
    replace dY := dY.up hux
    replace hX := hX.up hux
    replace hY := hY.up hux
    replace rL := below_up rL hux
    clear hux
    generalize v0.heap.size = gD at *
    have k1 := rA.lt
    have k2 := rB.lt
    go_upto_region 7 with (first | ((with_reducible apply ld_rowP undW infoW); exact rfl; exact rfl; focus (repeat (first | assumption | ((with_reducible apply row_newc); (focus (first | rfl | (simp; done)))) | ((with_reducible apply row_newz); (focus (first | rfl | (simp; done)))) | (with_reducible apply row_same) | ((with_reducible apply row_else); (focus (first | (simp; done) | (simp; omega) | omega))) | (with_reducible apply row_alloc) | (with_reducible apply row_drew) | (with_reducible apply row_drewN) | ((with_reducible apply row_up); assumption)))) | ((with_reducible apply st_rowP infoW); exact rfl; exact rfl; focus (repeat (first | assumption | ((with_reducible apply row_newc); (focus (first | rfl | (simp; done)))) | ((with_reducible apply row_newz); (focus (first | rfl | (simp; done)))) | (with_reducible apply row_same) | ((with_reducible apply row_else); (focus (first | (simp; done) | (simp; omega) | omega))) | (with_reducible apply row_alloc) | (with_reducible apply row_drew) | (with_reducible apply row_drewN) | ((with_reducible apply row_up); assumption)))) | ((with_reducible apply st_rowZ infoW); exact rfl; exact rfl; focus (repeat (first | assumption | ((with_reducible apply row_newc); (focus (first | rfl | (simp; done)))) | ((with_reducible apply row_newz); (focus (first | rfl | (simp; done)))) | (with_reducible apply row_same) | ((with_reducible apply row_else); (focus (first | (simp; done) | (simp; omega) | omega))) | (with_reducible apply row_alloc) | (with_reducible apply row_drew) | (with_reducible apply row_drewN) | ((with_reducible apply row_up); assumption)))) | (go_at_call 14; (with_reducible refine (HAs.out _).mono ?_); rintro e v1 ⟨rfl, hu⟩; have hs := hu.size))
    try simp only [Act.put]
    refine wp_world (fun wd => Row wd v1.heap.size 27 16 (limb od) ∧ Up x0 wd) ⟨(by (repeat (first | assumption | ((with_reducible apply row_newc); (focus (first | rfl | (simp; done)))) | ((with_reducible apply row_newz); (focus (first | rfl | (simp; done)))) | (with_reducible apply row_same) | ((with_reducible apply row_else); (focus (first | (simp; done) | (simp; omega) | omega))) | (with_reducible apply row_alloc) | (with_reducible apply row_drew) | (with_reducible apply row_drewN) | ((with_reducible apply row_up); assumption)))), (by repeat (first | assumption | (with_reducible apply Up.of) | (with_reducible exact Below.refl _ _) | (with_reducible exact Up.refl _) | ((with_reducible apply bl_setRow); (focus (first | exact Nat.le_refl _ | (simp; done) | (simp; omega) | omega))) | (with_reducible apply below_drewN) | (with_reducible apply Below.drew) | ((with_reducible apply bl_alloc); (focus (first | exact Nat.le_refl _ | (simp; done) | (simp; omega) | omega))) | ((with_reducible apply bl_setCell); (focus (first | exact Nat.le_refl _ | (simp; done) | (simp; omega) | omega))) | ((with_reducible apply up_tr); assumption)))⟩ (fun x1 hD => ?_)
    obtain ⟨rE, hux⟩ := hD
    clear k1 k2 hu hs
    replace rA := rA.up hux
    replace rB := rB.up hux
    replace dX := dX.up hux
    replace dY := dY.up hux
    replace hX := hX.up hux
    replace hY := hY.up hux
    replace rL := below_up rL hux
    replace rD := rD.up hux
    clear hux
    generalize v1.heap.size = gE at *
    have k1 := rA.lt
    have k2 := rB.lt
    go_upto_region 8 with (first | ((with_reducible apply ld_rowP undW infoW); exact rfl; exact rfl; focus (repeat (first | assumption | ((with_reducible apply row_newc); (focus (first | rfl | (simp; done)))) | ((with_reducible apply row_newz); (focus (first | rfl | (simp; done)))) | (with_reducible apply row_same) | ((with_reducible apply row_else); (focus (first | (simp; done) | (simp; omega) | omega))) | (with_reducible apply row_alloc) | (with_reducible apply row_drew) | (with_reducible apply row_drewN) | ((with_reducible apply row_up); assumption)))) | ((with_reducible apply st_rowP infoW); exact rfl; exact rfl; focus (repeat (first | assumption | ((with_reducible apply row_newc); (focus (first | rfl | (simp; done)))) | ((with_reducible apply row_newz); (focus (first | rfl | (simp; done)))) | (with_reducible apply row_same) | ((with_reducible apply row_else); (focus (first | (simp; done) | (simp; omega) | omega))) | (with_reducible apply row_alloc) | (with_reducible apply row_drew) | (with_reducible apply row_drewN) | ((with_reducible apply row_up); assumption)))) | ((with_reducible apply st_rowZ infoW); exact rfl; exact rfl; focus (repeat (first | assumption | ((with_reducible apply row_newc); (focus (first | rfl | (simp; done)))) | ((with_reducible apply row_newz); (focus (first | rfl | (simp; done)))) | (with_reducible apply row_same) | ((with_reducible apply row_else); (focus (first | (simp; done) | (simp; omega) | omega))) | (with_reducible apply row_alloc) | (with_reducible apply row_drew) | (with_reducible apply row_drewN) | ((with_reducible apply row_up); assumption)))) | (go_at_call 15; (with_reducible refine (HAm.out _).mono ?_); rintro e v2 ⟨rfl, hu⟩; have hs := hu.size))
    try simp only [Act.put]
    refine wp_world (fun wd => Row wd v2.heap.size 27 16 (limb om) ∧ Up x1 wd) ⟨(by (repeat (first | assumption | ((with_reducible apply row_newc); (focus (first | rfl | (simp; done)))) | ((with_reducible apply row_newz); (focus (first | rfl | (simp; done)))) | (with_reducible apply row_same) | ((with_reducible apply row_else); (focus (first | (simp; done) | (simp; omega) | omega))) | (with_reducible apply row_alloc) | (with_reducible apply row_drew) | (with_reducible apply row_drewN) | ((with_reducible apply row_up); assumption)))), (by repeat (first | assumption | (with_reducible apply Up.of) | (with_reducible exact Below.refl _ _) | (with_reducible exact Up.refl _) | ((with_reducible apply bl_setRow); (focus (first | exact Nat.le_refl _ | (simp; done) | (simp; omega) | omega))) | (with_reducible apply below_drewN) | (with_reducible apply Below.drew) | ((with_reducible apply bl_alloc); (focus (first | exact Nat.le_refl _ | (simp; done) | (simp; omega) | omega))) | ((with_reducible apply bl_setCell); (focus (first | exact Nat.le_refl _ | (simp; done) | (simp; omega) | omega))) | ((with_reducible apply up_tr); assumption)))⟩ (fun x2 hD => ?_)
    obtain ⟨rF, hux⟩ := hD
    clear k1 k2 hu hs
    replace rA := rA.up hux
    replace rB := rB.up hux
    replace dX := dX.up hux
    replace dY := dY.up hux
    replace hX := hX.up hux
    replace hY := hY.up hux
    replace rL := below_up rL hux
    replace rD := rD.up hux
    replace rE := rE.up hux
    clear hux
    generalize v2.heap.size = gF at *
    refine wp_region_upS (S := (fun wq => Row wq gD 27 16 (limb oa) ∧ Row wq gE 27 16 (limb od) ∧ Row wq gF 27 16 (limb om) ∧ Row wq gA 27 16 (limb ex) ∧ Row wq (gA + 1) 27 16 (limb ey) ∧ Blk wq gX 30 #[.bool b4, .slice a4 n4 c4] ∧ Blk wq gY 30 #[.bool b5, .slice a5 n5 c5] ∧ Big wq (.agg #[.bool b4, .slice a4 n4 c4]) x ∧ Big wq (.agg #[.bool b5, .slice a5 n5 c5]) y ∧ Below w.heap.size w wq)) (req := (fun _ => true)) (by kernel_rfl) (fun _ _ h hu => ⟨(h.1).up hu, (h.2.1).up hu, (h.2.2.1).up hu, (h.2.2.2.1).up hu, (h.2.2.2.2.1).up hu, (h.2.2.2.2.2.1).up hu, (h.2.2.2.2.2.2.1).up hu, (h.2.2.2.2.2.2.2.1).up hu, (h.2.2.2.2.2.2.2.2.1).up hu, below_up (h.2.2.2.2.2.2.2.2.2) hu⟩) ⟨(by (repeat (first | assumption | ((with_reducible apply row_newc); (focus (first | rfl | (simp; done)))) | ((with_reducible apply row_newz); (focus (first | rfl | (simp; done)))) | (with_reducible apply row_same) | ((with_reducible apply row_else); (focus (first | (simp; done) | (simp; omega) | omega))) | (with_reducible apply row_alloc) | (with_reducible apply row_drew) | (with_reducible apply row_drewN) | ((with_reducible apply row_up); assumption)))), (by (repeat (first | assumption | ((with_reducible apply row_newc); (focus (first | rfl | (simp; done)))) | ((with_reducible apply row_newz); (focus (first | rfl | (simp; done)))) | (with_reducible apply row_same) | ((with_reducible apply row_else); (focus (first | (simp; done) | (simp; omega) | omega))) | (with_reducible apply row_alloc) | (with_reducible apply row_drew) | (with_reducible apply row_drewN) | ((with_reducible apply row_up); assumption)))), (by (repeat (first | assumption | ((with_reducible apply row_newc); (focus (first | rfl | (simp; done)))) | ((with_reducible apply row_newz); (focus (first | rfl | (simp; done)))) | (with_reducible apply row_same) | ((with_reducible apply row_else); (focus (first | (simp; done) | (simp; omega) | omega))) | (with_reducible apply row_alloc) | (with_reducible apply row_drew) | (with_reducible apply row_drewN) | ((with_reducible apply row_up); assumption)))), (by (repeat (first | assumption | ((with_reducible apply row_newc); (focus (first | rfl | (simp; done)))) | ((with_reducible apply row_newz); (focus (first | rfl | (simp; done)))) | (with_reducible apply row_same) | ((with_reducible apply row_else); (focus (first | (simp; done) | (simp; omega) | omega))) | (with_reducible apply row_alloc) | (with_reducible apply row_drew) | (with_reducible apply row_drewN) | ((with_reducible apply row_up); assumption)))), (by (repeat (first | assumption | ((with_reducible apply row_newc); (focus (first | rfl | (simp; done)))) | ((with_reducible apply row_newz); (focus (first | rfl | (simp; done)))) | (with_reducible apply row_same) | ((with_reducible apply row_else); (focus (first | (simp; done) | (simp; omega) | omega))) | (with_reducible apply row_alloc) | (with_reducible apply row_drew) | (with_reducible apply row_drewN) | ((with_reducible apply row_up); assumption)))), (by (repeat (first | assumption | ((with_reducible apply blk_new); (focus (first | rfl | (simp; done)))) | (with_reducible apply blk_alloc) | (with_reducible apply blk_drew) | (with_reducible apply blk_drewN) | ((with_reducible apply blk_up); assumption) | (with_reducible apply blk_same) | ((with_reducible apply blk_else); (focus (first | (simp; done) | (simp; omega) | omega)))))), (by (repeat (first | assumption | ((with_reducible apply blk_new); (focus (first | rfl | (simp; done)))) | (with_reducible apply blk_alloc) | (with_reducible apply blk_drew) | (with_reducible apply blk_drewN) | ((with_reducible apply blk_up); assumption) | (with_reducible apply blk_same) | ((with_reducible apply blk_else); (focus (first | (simp; done) | (simp; omega) | omega)))))), (by (repeat (first | assumption | ((with_reducible apply big_set); (focus (repeat (first | assumption | ((with_reducible apply blk_new); (focus (first | rfl | (simp; done)))) | (with_reducible apply blk_alloc) | (with_reducible apply blk_drew) | (with_reducible apply blk_drewN) | ((with_reducible apply blk_up); assumption) | (with_reducible apply blk_same) | ((with_reducible apply blk_else); (focus (first | (simp; done) | (simp; omega) | omega))))))) | (with_reducible apply big_alloc) | ((with_reducible apply big_up); assumption))); done), (by (repeat (first | assumption | ((with_reducible apply big_set); (focus (repeat (first | assumption | ((with_reducible apply blk_new); (focus (first | rfl | (simp; done)))) | (with_reducible apply blk_alloc) | (with_reducible apply blk_drew) | (with_reducible apply blk_drewN) | ((with_reducible apply blk_up); assumption) | (with_reducible apply blk_same) | ((with_reducible apply blk_else); (focus (first | (simp; done) | (simp; omega) | omega))))))) | (with_reducible apply big_alloc) | ((with_reducible apply big_up); assumption))); done), (by repeat (first | assumption | (with_reducible apply Up.of) | (with_reducible exact Below.refl _ _) | (with_reducible exact Up.refl _) | ((with_reducible apply bl_setRow); (focus (first | exact Nat.le_refl _ | (simp; done) | (simp; omega) | omega))) | (with_reducible apply below_drewN) | (with_reducible apply Below.drew) | ((with_reducible apply bl_alloc); (focus (first | exact Nat.le_refl _ | (simp; done) | (simp; omega) | omega))) | ((with_reducible apply bl_setCell); (focus (first | exact Nat.le_refl _ | (simp; done) | (simp; omega) | omega))) | ((with_reducible apply up_tr); assumption)))⟩ (fun wS hSS => ?_)
    have ⟨hS1, hS2, hS3, hS4, hS5, hS6, hS7, hS8, hS9, hSB⟩ := hSS
    refine wpAnyU_take (i := 0) (d := (some 61)) (v := _) rfl rfl (by kernel_rfl) (fun _ _ _ h => h) (fun _ _ h hu => ⟨(h.1).up hu, (h.2.1).up hu, (h.2.2.1).up hu, (h.2.2.2.1).up hu, (h.2.2.2.2.1).up hu, (h.2.2.2.2.2.1).up hu, (h.2.2.2.2.2.2.1).up hu, (h.2.2.2.2.2.2.2.1).up hu, (h.2.2.2.2.2.2.2.2.1).up hu, below_up (h.2.2.2.2.2.2.2.2.2) hu⟩) hSS (Or.inl ⟨by rfl, fun w' hSw => yu_value (run_ld undW infoW _ rfl _ rfl hSw.1)⟩) ?_
    try simp only [Act.put, List.setIfInBounds_toArray, List.set_cons_zero, List.set_cons_succ]
    refine wpAnyU_pure (i := 1) (d := (some 62)) (v := ?_) rfl rfl (by kernel_rfl) (fun _ _ _ h => h) (fun _ _ h hu => ⟨(h.1).up hu, (h.2.1).up hu, (h.2.2.1).up hu, (h.2.2.2.1).up hu, (h.2.2.2.2.1).up hu, (h.2.2.2.2.2.1).up hu, (h.2.2.2.2.2.2.1).up hu, (h.2.2.2.2.2.2.2.1).up hu, (h.2.2.2.2.2.2.2.2.1).up hu, below_up (h.2.2.2.2.2.2.2.2.2) hu⟩) (Or.inl ⟨by rfl, fun w' _ => yu_value ?_⟩) ?_
    rotate_left
    · (go_simp; (try exact rfl))
    try simp only [Act.put, List.setIfInBounds_toArray, List.set_cons_zero, List.set_cons_succ]
    refine wpAnyU_take (i := 2) (d := (some 63)) (v := _) rfl rfl (by kernel_rfl) (fun _ _ _ h => h) (fun _ _ h hu => ⟨(h.1).up hu, (h.2.1).up hu, (h.2.2.1).up hu, (h.2.2.2.1).up hu, (h.2.2.2.2.1).up hu, (h.2.2.2.2.2.1).up hu, (h.2.2.2.2.2.2.1).up hu, (h.2.2.2.2.2.2.2.1).up hu, (h.2.2.2.2.2.2.2.2.1).up hu, below_up (h.2.2.2.2.2.2.2.2.2) hu⟩) hSS (Or.inl ⟨by rfl, fun w' hSw => yu_value (run_ldB rfl rfl hSw.2.2.2.2.2.1 rfl)⟩) ?_
    try simp only [Act.put, List.setIfInBounds_toArray, List.set_cons_zero, List.set_cons_succ]
    refine wpAnyU_take (i := 3) (d := (some 64)) (v := _) rfl rfl (by kernel_rfl) (fun _ _ _ h => h) (fun _ _ h hu => ⟨(h.1).up hu, (h.2.1).up hu, (h.2.2.1).up hu, (h.2.2.2.1).up hu, (h.2.2.2.2.1).up hu, (h.2.2.2.2.2.1).up hu, (h.2.2.2.2.2.2.1).up hu, (h.2.2.2.2.2.2.2.1).up hu, (h.2.2.2.2.2.2.2.2.1).up hu, below_up (h.2.2.2.2.2.2.2.2.2) hu⟩) hSS (Or.inl ⟨by rfl, fun w' hSw => yu_value (run_ldB rfl rfl hSw.2.2.2.2.2.2.1 rfl)⟩) ?_
    try simp only [Act.put, List.setIfInBounds_toArray, List.set_cons_zero, List.set_cons_succ]
    refine wpAnyU_callE (i := 4) (d := (some 65)) rfl rfl (by kernel_rfl) (by rfl) (fun _ _ h hu => ⟨(h.1).up hu, (h.2.1).up hu, (h.2.2.1).up hu, (h.2.2.2.1).up hu, (h.2.2.2.2.1).up hu, (h.2.2.2.2.2.1).up hu, (h.2.2.2.2.2.2.1).up hu, (h.2.2.2.2.2.2.2.1).up hu, (h.2.2.2.2.2.2.2.2.1).up hu, below_up (h.2.2.2.2.2.2.2.2.2) hu⟩) (fun w' => by go_simp) (fun w' hw' => (HAD.out _ _ _ (hSS.2.2.2.2.2.2.2.1.up hw') (hSS.2.2.2.2.2.2.2.2.1.up hw'))) fun vP wP hwP hRP => ?_
    try simp only [Act.put, List.setIfInBounds_toArray, List.set_cons_zero, List.set_cons_succ]
    replace hSS := ((fun _ _ h hu => ⟨(h.1).up hu, (h.2.1).up hu, (h.2.2.1).up hu, (h.2.2.2.1).up hu, (h.2.2.2.2.1).up hu, (h.2.2.2.2.2.1).up hu, (h.2.2.2.2.2.2.1).up hu, (h.2.2.2.2.2.2.2.1).up hu, (h.2.2.2.2.2.2.2.2.1).up hu, below_up (h.2.2.2.2.2.2.2.2.2) hu⟩) : ∀ w1 w2 : World, (fun wq => Row wq gD 27 16 (limb oa) ∧ Row wq gE 27 16 (limb od) ∧ Row wq gF 27 16 (limb om) ∧ Row wq gA 27 16 (limb ex) ∧ Row wq (gA + 1) 27 16 (limb ey) ∧ Blk wq gX 30 #[.bool b4, .slice a4 n4 c4] ∧ Blk wq gY 30 #[.bool b5, .slice a5 n5 c5] ∧ Big wq (.agg #[.bool b4, .slice a4 n4 c4]) x ∧ Big wq (.agg #[.bool b5, .slice a5 n5 c5]) y ∧ Below w.heap.size w wq) w1 → Up w1 w2 → (fun wq => Row wq gD 27 16 (limb oa) ∧ Row wq gE 27 16 (limb od) ∧ Row wq gF 27 16 (limb om) ∧ Row wq gA 27 16 (limb ex) ∧ Row wq (gA + 1) 27 16 (limb ey) ∧ Blk wq gX 30 #[.bool b4, .slice a4 n4 c4] ∧ Blk wq gY 30 #[.bool b5, .slice a5 n5 c5] ∧ Big wq (.agg #[.bool b4, .slice a4 n4 c4]) x ∧ Big wq (.agg #[.bool b5, .slice a5 n5 c5]) y ∧ Below w.heap.size w wq) w2) _ _ hSS hwP
    obtain ⟨bP, aP, nP, cP, rfl⟩ := hRP.shape
    refine wpAnyU_callE (i := 5) (d := (some 66)) rfl rfl (by kernel_rfl) (by rfl) (fun _ _ h hu => ⟨(h.1).up hu, (h.2.1).up hu, (h.2.2.1).up hu, (h.2.2.2.1).up hu, (h.2.2.2.2.1).up hu, (h.2.2.2.2.2.1).up hu, (h.2.2.2.2.2.2.1).up hu, (h.2.2.2.2.2.2.2.1).up hu, (h.2.2.2.2.2.2.2.2.1).up hu, below_up (h.2.2.2.2.2.2.2.2.2) hu⟩) (fun w' => by go_simp) (fun w' hw' => (callE_of (HF1.out _ _ (hRP.up hw')))) fun vPf wPf hwPf hRPf => ?_
    try simp only [Act.put, List.setIfInBounds_toArray, List.set_cons_zero, List.set_cons_succ]
    obtain rfl := hRPf
    replace hSS := ((fun _ _ h hu => ⟨(h.1).up hu, (h.2.1).up hu, (h.2.2.1).up hu, (h.2.2.2.1).up hu, (h.2.2.2.2.1).up hu, (h.2.2.2.2.2.1).up hu, (h.2.2.2.2.2.2.1).up hu, (h.2.2.2.2.2.2.2.1).up hu, (h.2.2.2.2.2.2.2.2.1).up hu, below_up (h.2.2.2.2.2.2.2.2.2) hu⟩) : ∀ w1 w2 : World, (fun wq => Row wq gD 27 16 (limb oa) ∧ Row wq gE 27 16 (limb od) ∧ Row wq gF 27 16 (limb om) ∧ Row wq gA 27 16 (limb ex) ∧ Row wq (gA + 1) 27 16 (limb ey) ∧ Blk wq gX 30 #[.bool b4, .slice a4 n4 c4] ∧ Blk wq gY 30 #[.bool b5, .slice a5 n5 c5] ∧ Big wq (.agg #[.bool b4, .slice a4 n4 c4]) x ∧ Big wq (.agg #[.bool b5, .slice a5 n5 c5]) y ∧ Below w.heap.size w wq) w1 → Up w1 w2 → (fun wq => Row wq gD 27 16 (limb oa) ∧ Row wq gE 27 16 (limb od) ∧ Row wq gF 27 16 (limb om) ∧ Row wq gA 27 16 (limb ex) ∧ Row wq (gA + 1) 27 16 (limb ey) ∧ Blk wq gX 30 #[.bool b4, .slice a4 n4 c4] ∧ Blk wq gY 30 #[.bool b5, .slice a5 n5 c5] ∧ Big wq (.agg #[.bool b4, .slice a4 n4 c4]) x ∧ Big wq (.agg #[.bool b5, .slice a5 n5 c5]) y ∧ Below w.heap.size w wq) w2) _ _ hSS hwPf
    clear hwP hwPf hRP
    refine wpAnyU_pure (i := 6) (d := (some 67)) (v := ?_) rfl rfl (by kernel_rfl) (fun _ _ _ h => h) (fun _ _ h hu => ⟨(h.1).up hu, (h.2.1).up hu, (h.2.2.1).up hu, (h.2.2.2.1).up hu, (h.2.2.2.2.1).up hu, (h.2.2.2.2.2.1).up hu, (h.2.2.2.2.2.2.1).up hu, (h.2.2.2.2.2.2.2.1).up hu, (h.2.2.2.2.2.2.2.2.1).up hu, below_up (h.2.2.2.2.2.2.2.2.2) hu⟩) (Or.inl ⟨by rfl, fun w' _ => yu_value ?_⟩) ?_
    rotate_left
    · (go_simp; (try exact rfl))
    try simp only [Act.put, List.setIfInBounds_toArray, List.set_cons_zero, List.set_cons_succ]
    refine wpAnyU_take (i := 7) (d := (some 68)) (v := _) rfl rfl (by kernel_rfl) (fun _ _ _ h => h) (fun _ _ h hu => ⟨(h.1).up hu, (h.2.1).up hu, (h.2.2.1).up hu, (h.2.2.2.1).up hu, (h.2.2.2.2.1).up hu, (h.2.2.2.2.2.1).up hu, (h.2.2.2.2.2.2.1).up hu, (h.2.2.2.2.2.2.2.1).up hu, (h.2.2.2.2.2.2.2.2.1).up hu, below_up (h.2.2.2.2.2.2.2.2.2) hu⟩) hSS (Or.inl ⟨by rfl, fun w' hSw => yu_value (run_ld undW infoW _ rfl _ rfl hSw.2.1)⟩) ?_
    try simp only [Act.put, List.setIfInBounds_toArray, List.set_cons_zero, List.set_cons_succ]
    refine wpAnyU_pure (i := 8) (d := (some 69)) (v := ?_) rfl rfl (by kernel_rfl) (fun _ _ _ h => h) (fun _ _ h hu => ⟨(h.1).up hu, (h.2.1).up hu, (h.2.2.1).up hu, (h.2.2.2.1).up hu, (h.2.2.2.2.1).up hu, (h.2.2.2.2.2.1).up hu, (h.2.2.2.2.2.2.1).up hu, (h.2.2.2.2.2.2.2.1).up hu, (h.2.2.2.2.2.2.2.2.1).up hu, below_up (h.2.2.2.2.2.2.2.2.2) hu⟩) (Or.inl ⟨by rfl, fun w' _ => yu_value ?_⟩) ?_
    rotate_left
    · (go_simp; (try exact rfl))
    try simp only [Act.put, List.setIfInBounds_toArray, List.set_cons_zero, List.set_cons_succ]
    refine wpAnyU_take (i := 9) (d := (some 70)) (v := _) rfl rfl (by kernel_rfl) (fun _ _ _ h => h) (fun _ _ h hu => ⟨(h.1).up hu, (h.2.1).up hu, (h.2.2.1).up hu, (h.2.2.2.1).up hu, (h.2.2.2.2.1).up hu, (h.2.2.2.2.2.1).up hu, (h.2.2.2.2.2.2.1).up hu, (h.2.2.2.2.2.2.2.1).up hu, (h.2.2.2.2.2.2.2.2.1).up hu, below_up (h.2.2.2.2.2.2.2.2.2) hu⟩) hSS (Or.inl ⟨by rfl, fun w' hSw => yu_value (run_ldB rfl rfl hSw.2.2.2.2.2.1 rfl)⟩) ?_
    try simp only [Act.put, List.setIfInBounds_toArray, List.set_cons_zero, List.set_cons_succ]
    refine wpAnyU_take (i := 10) (d := (some 71)) (v := _) rfl rfl (by kernel_rfl) (fun _ _ _ h => h) (fun _ _ h hu => ⟨(h.1).up hu, (h.2.1).up hu, (h.2.2.1).up hu, (h.2.2.2.1).up hu, (h.2.2.2.2.1).up hu, (h.2.2.2.2.2.1).up hu, (h.2.2.2.2.2.2.1).up hu, (h.2.2.2.2.2.2.2.1).up hu, (h.2.2.2.2.2.2.2.2.1).up hu, below_up (h.2.2.2.2.2.2.2.2.2) hu⟩) hSS (Or.inl ⟨by rfl, fun w' hSw => yu_value (run_ldB rfl rfl hSw.2.2.2.2.2.2.1 rfl)⟩) ?_
    try simp only [Act.put, List.setIfInBounds_toArray, List.set_cons_zero, List.set_cons_succ]
    refine wpAnyU_callE (i := 11) (d := (some 72)) rfl rfl (by kernel_rfl) (by rfl) (fun _ _ h hu => ⟨(h.1).up hu, (h.2.1).up hu, (h.2.2.1).up hu, (h.2.2.2.1).up hu, (h.2.2.2.2.1).up hu, (h.2.2.2.2.2.1).up hu, (h.2.2.2.2.2.2.1).up hu, (h.2.2.2.2.2.2.2.1).up hu, (h.2.2.2.2.2.2.2.2.1).up hu, below_up (h.2.2.2.2.2.2.2.2.2) hu⟩) (fun w' => by go_simp) (fun w' hw' => (HSB.out _ _ _ (hSS.2.2.2.2.2.2.2.1.up hw') (hSS.2.2.2.2.2.2.2.2.1.up hw'))) fun vM wM hwM hRM => ?_
    try simp only [Act.put, List.setIfInBounds_toArray, List.set_cons_zero, List.set_cons_succ]
    replace hSS := ((fun _ _ h hu => ⟨(h.1).up hu, (h.2.1).up hu, (h.2.2.1).up hu, (h.2.2.2.1).up hu, (h.2.2.2.2.1).up hu, (h.2.2.2.2.2.1).up hu, (h.2.2.2.2.2.2.1).up hu, (h.2.2.2.2.2.2.2.1).up hu, (h.2.2.2.2.2.2.2.2.1).up hu, below_up (h.2.2.2.2.2.2.2.2.2) hu⟩) : ∀ w1 w2 : World, (fun wq => Row wq gD 27 16 (limb oa) ∧ Row wq gE 27 16 (limb od) ∧ Row wq gF 27 16 (limb om) ∧ Row wq gA 27 16 (limb ex) ∧ Row wq (gA + 1) 27 16 (limb ey) ∧ Blk wq gX 30 #[.bool b4, .slice a4 n4 c4] ∧ Blk wq gY 30 #[.bool b5, .slice a5 n5 c5] ∧ Big wq (.agg #[.bool b4, .slice a4 n4 c4]) x ∧ Big wq (.agg #[.bool b5, .slice a5 n5 c5]) y ∧ Below w.heap.size w wq) w1 → Up w1 w2 → (fun wq => Row wq gD 27 16 (limb oa) ∧ Row wq gE 27 16 (limb od) ∧ Row wq gF 27 16 (limb om) ∧ Row wq gA 27 16 (limb ex) ∧ Row wq (gA + 1) 27 16 (limb ey) ∧ Blk wq gX 30 #[.bool b4, .slice a4 n4 c4] ∧ Blk wq gY 30 #[.bool b5, .slice a5 n5 c5] ∧ Big wq (.agg #[.bool b4, .slice a4 n4 c4]) x ∧ Big wq (.agg #[.bool b5, .slice a5 n5 c5]) y ∧ Below w.heap.size w wq) w2) _ _ hSS hwM
    obtain ⟨bM, aM, nM, cM, rfl⟩ := hRM.shape
    refine wpAnyU_callE (i := 12) (d := (some 73)) rfl rfl (by kernel_rfl) (by rfl) (fun _ _ h hu => ⟨(h.1).up hu, (h.2.1).up hu, (h.2.2.1).up hu, (h.2.2.2.1).up hu, (h.2.2.2.2.1).up hu, (h.2.2.2.2.2.1).up hu, (h.2.2.2.2.2.2.1).up hu, (h.2.2.2.2.2.2.2.1).up hu, (h.2.2.2.2.2.2.2.2.1).up hu, below_up (h.2.2.2.2.2.2.2.2.2) hu⟩) (fun w' => by go_simp) (fun w' hw' => (callE_of (HF2.out _ _ (hRM.up hw')))) fun vMf wMf hwMf hRMf => ?_
    try simp only [Act.put, List.setIfInBounds_toArray, List.set_cons_zero, List.set_cons_succ]
    obtain rfl := hRMf
    replace hSS := ((fun _ _ h hu => ⟨(h.1).up hu, (h.2.1).up hu, (h.2.2.1).up hu, (h.2.2.2.1).up hu, (h.2.2.2.2.1).up hu, (h.2.2.2.2.2.1).up hu, (h.2.2.2.2.2.2.1).up hu, (h.2.2.2.2.2.2.2.1).up hu, (h.2.2.2.2.2.2.2.2.1).up hu, below_up (h.2.2.2.2.2.2.2.2.2) hu⟩) : ∀ w1 w2 : World, (fun wq => Row wq gD 27 16 (limb oa) ∧ Row wq gE 27 16 (limb od) ∧ Row wq gF 27 16 (limb om) ∧ Row wq gA 27 16 (limb ex) ∧ Row wq (gA + 1) 27 16 (limb ey) ∧ Blk wq gX 30 #[.bool b4, .slice a4 n4 c4] ∧ Blk wq gY 30 #[.bool b5, .slice a5 n5 c5] ∧ Big wq (.agg #[.bool b4, .slice a4 n4 c4]) x ∧ Big wq (.agg #[.bool b5, .slice a5 n5 c5]) y ∧ Below w.heap.size w wq) w1 → Up w1 w2 → (fun wq => Row wq gD 27 16 (limb oa) ∧ Row wq gE 27 16 (limb od) ∧ Row wq gF 27 16 (limb om) ∧ Row wq gA 27 16 (limb ex) ∧ Row wq (gA + 1) 27 16 (limb ey) ∧ Blk wq gX 30 #[.bool b4, .slice a4 n4 c4] ∧ Blk wq gY 30 #[.bool b5, .slice a5 n5 c5] ∧ Big wq (.agg #[.bool b4, .slice a4 n4 c4]) x ∧ Big wq (.agg #[.bool b5, .slice a5 n5 c5]) y ∧ Below w.heap.size w wq) w2) _ _ hSS hwMf
    clear hwM hwMf hRM
    refine wpAnyU_pure (i := 13) (d := (some 74)) (v := ?_) rfl rfl (by kernel_rfl) (fun _ _ _ h => h) (fun _ _ h hu => ⟨(h.1).up hu, (h.2.1).up hu, (h.2.2.1).up hu, (h.2.2.2.1).up hu, (h.2.2.2.2.1).up hu, (h.2.2.2.2.2.1).up hu, (h.2.2.2.2.2.2.1).up hu, (h.2.2.2.2.2.2.2.1).up hu, (h.2.2.2.2.2.2.2.2.1).up hu, below_up (h.2.2.2.2.2.2.2.2.2) hu⟩) (Or.inl ⟨by rfl, fun w' _ => yu_value ?_⟩) ?_
    rotate_left
    · (go_simp; (try exact rfl))
    try simp only [Act.put, List.setIfInBounds_toArray, List.set_cons_zero, List.set_cons_succ]
    refine wpAnyU_pure (i := 14) (d := (some 75)) (v := ?_) rfl rfl (by kernel_rfl) (fun _ _ _ h => h) (fun _ _ h hu => ⟨(h.1).up hu, (h.2.1).up hu, (h.2.2.1).up hu, (h.2.2.2.1).up hu, (h.2.2.2.2.1).up hu, (h.2.2.2.2.2.1).up hu, (h.2.2.2.2.2.2.1).up hu, (h.2.2.2.2.2.2.2.1).up hu, (h.2.2.2.2.2.2.2.2.1).up hu, below_up (h.2.2.2.2.2.2.2.2.2) hu⟩) (Or.inl ⟨by rfl, fun w' _ => yu_value ?_⟩) ?_
    rotate_left
    · (go_simp; (try exact rfl))
    try simp only [Act.put, List.setIfInBounds_toArray, List.set_cons_zero, List.set_cons_succ]
    refine wpAnyU_take (i := 15) (d := (some 76)) (v := _) rfl rfl (by kernel_rfl) (fun _ _ _ h => h) (fun _ _ h hu => ⟨(h.1).up hu, (h.2.1).up hu, (h.2.2.1).up hu, (h.2.2.2.1).up hu, (h.2.2.2.2.1).up hu, (h.2.2.2.2.2.1).up hu, (h.2.2.2.2.2.2.1).up hu, (h.2.2.2.2.2.2.2.1).up hu, (h.2.2.2.2.2.2.2.2.1).up hu, below_up (h.2.2.2.2.2.2.2.2.2) hu⟩) hSS (Or.inl ⟨by rfl, fun w' hSw => yu_value (run_ld undW infoW _ rfl _ rfl hSw.2.2.1)⟩) ?_
    try simp only [Act.put, List.setIfInBounds_toArray, List.set_cons_zero, List.set_cons_succ]
    refine wpAnyU_pure (i := 16) (d := (some 77)) (v := ?_) rfl rfl (by kernel_rfl) (fun _ _ _ h => h) (fun _ _ h hu => ⟨(h.1).up hu, (h.2.1).up hu, (h.2.2.1).up hu, (h.2.2.2.1).up hu, (h.2.2.2.2.1).up hu, (h.2.2.2.2.2.1).up hu, (h.2.2.2.2.2.2.1).up hu, (h.2.2.2.2.2.2.2.1).up hu, (h.2.2.2.2.2.2.2.2.1).up hu, below_up (h.2.2.2.2.2.2.2.2.2) hu⟩) (Or.inl ⟨by rfl, fun w' _ => yu_value ?_⟩) ?_
    rotate_left
    · (go_simp; (try exact rfl))
    try simp only [Act.put, List.setIfInBounds_toArray, List.set_cons_zero, List.set_cons_succ]
    refine wpAnyU_take (i := 17) (d := (some 78)) (v := _) rfl rfl (by kernel_rfl) (fun _ _ _ h => h) (fun _ _ h hu => ⟨(h.1).up hu, (h.2.1).up hu, (h.2.2.1).up hu, (h.2.2.2.1).up hu, (h.2.2.2.2.1).up hu, (h.2.2.2.2.2.1).up hu, (h.2.2.2.2.2.2.1).up hu, (h.2.2.2.2.2.2.2.1).up hu, (h.2.2.2.2.2.2.2.2.1).up hu, below_up (h.2.2.2.2.2.2.2.2.2) hu⟩) hSS (Or.inl ⟨by rfl, fun w' hSw => yu_value (run_ldB rfl rfl hSw.2.2.2.2.2.1 rfl)⟩) ?_
    try simp only [Act.put, List.setIfInBounds_toArray, List.set_cons_zero, List.set_cons_succ]
    refine wpAnyU_take (i := 18) (d := (some 79)) (v := _) rfl rfl (by kernel_rfl) (fun _ _ _ h => h) (fun _ _ h hu => ⟨(h.1).up hu, (h.2.1).up hu, (h.2.2.1).up hu, (h.2.2.2.1).up hu, (h.2.2.2.2.1).up hu, (h.2.2.2.2.2.1).up hu, (h.2.2.2.2.2.2.1).up hu, (h.2.2.2.2.2.2.2.1).up hu, (h.2.2.2.2.2.2.2.2.1).up hu, below_up (h.2.2.2.2.2.2.2.2.2) hu⟩) hSS (Or.inl ⟨by rfl, fun w' hSw => yu_value (run_ldB rfl rfl hSw.2.2.2.2.2.2.1 rfl)⟩) ?_
    try simp only [Act.put, List.setIfInBounds_toArray, List.set_cons_zero, List.set_cons_succ]
    refine wpAnyU_callE (i := 19) (d := (some 80)) rfl rfl (by kernel_rfl) (by rfl) (fun _ _ h hu => ⟨(h.1).up hu, (h.2.1).up hu, (h.2.2.1).up hu, (h.2.2.2.1).up hu, (h.2.2.2.2.1).up hu, (h.2.2.2.2.2.1).up hu, (h.2.2.2.2.2.2.1).up hu, (h.2.2.2.2.2.2.2.1).up hu, (h.2.2.2.2.2.2.2.2.1).up hu, below_up (h.2.2.2.2.2.2.2.2.2) hu⟩) (fun w' => by go_simp) (fun w' hw' => (HML.out _ _ _ (hSS.2.2.2.2.2.2.2.1.up hw') (hSS.2.2.2.2.2.2.2.2.1.up hw'))) fun vT wT hwT hRT => ?_
    try simp only [Act.put, List.setIfInBounds_toArray, List.set_cons_zero, List.set_cons_succ]
    replace hSS := ((fun _ _ h hu => ⟨(h.1).up hu, (h.2.1).up hu, (h.2.2.1).up hu, (h.2.2.2.1).up hu, (h.2.2.2.2.1).up hu, (h.2.2.2.2.2.1).up hu, (h.2.2.2.2.2.2.1).up hu, (h.2.2.2.2.2.2.2.1).up hu, (h.2.2.2.2.2.2.2.2.1).up hu, below_up (h.2.2.2.2.2.2.2.2.2) hu⟩) : ∀ w1 w2 : World, (fun wq => Row wq gD 27 16 (limb oa) ∧ Row wq gE 27 16 (limb od) ∧ Row wq gF 27 16 (limb om) ∧ Row wq gA 27 16 (limb ex) ∧ Row wq (gA + 1) 27 16 (limb ey) ∧ Blk wq gX 30 #[.bool b4, .slice a4 n4 c4] ∧ Blk wq gY 30 #[.bool b5, .slice a5 n5 c5] ∧ Big wq (.agg #[.bool b4, .slice a4 n4 c4]) x ∧ Big wq (.agg #[.bool b5, .slice a5 n5 c5]) y ∧ Below w.heap.size w wq) w1 → Up w1 w2 → (fun wq => Row wq gD 27 16 (limb oa) ∧ Row wq gE 27 16 (limb od) ∧ Row wq gF 27 16 (limb om) ∧ Row wq gA 27 16 (limb ex) ∧ Row wq (gA + 1) 27 16 (limb ey) ∧ Blk wq gX 30 #[.bool b4, .slice a4 n4 c4] ∧ Blk wq gY 30 #[.bool b5, .slice a5 n5 c5] ∧ Big wq (.agg #[.bool b4, .slice a4 n4 c4]) x ∧ Big wq (.agg #[.bool b5, .slice a5 n5 c5]) y ∧ Below w.heap.size w wq) w2) _ _ hSS hwT
    obtain ⟨bT, aT, nT, cT, rfl⟩ := hRT.shape
    refine wpAnyU_callE (i := 20) (d := (some 81)) rfl rfl (by kernel_rfl) (by rfl) (fun _ _ h hu => ⟨(h.1).up hu, (h.2.1).up hu, (h.2.2.1).up hu, (h.2.2.2.1).up hu, (h.2.2.2.2.1).up hu, (h.2.2.2.2.2.1).up hu, (h.2.2.2.2.2.2.1).up hu, (h.2.2.2.2.2.2.2.1).up hu, (h.2.2.2.2.2.2.2.2.1).up hu, below_up (h.2.2.2.2.2.2.2.2.2) hu⟩) (fun w' => by go_simp) (fun w' hw' => (callE_of (HF3.out _ _ (hRT.up hw')))) fun vTf wTf hwTf hRTf => ?_
    try simp only [Act.put, List.setIfInBounds_toArray, List.set_cons_zero, List.set_cons_succ]
    obtain rfl := hRTf
    replace hSS := ((fun _ _ h hu => ⟨(h.1).up hu, (h.2.1).up hu, (h.2.2.1).up hu, (h.2.2.2.1).up hu, (h.2.2.2.2.1).up hu, (h.2.2.2.2.2.1).up hu, (h.2.2.2.2.2.2.1).up hu, (h.2.2.2.2.2.2.2.1).up hu, (h.2.2.2.2.2.2.2.2.1).up hu, below_up (h.2.2.2.2.2.2.2.2.2) hu⟩) : ∀ w1 w2 : World, (fun wq => Row wq gD 27 16 (limb oa) ∧ Row wq gE 27 16 (limb od) ∧ Row wq gF 27 16 (limb om) ∧ Row wq gA 27 16 (limb ex) ∧ Row wq (gA + 1) 27 16 (limb ey) ∧ Blk wq gX 30 #[.bool b4, .slice a4 n4 c4] ∧ Blk wq gY 30 #[.bool b5, .slice a5 n5 c5] ∧ Big wq (.agg #[.bool b4, .slice a4 n4 c4]) x ∧ Big wq (.agg #[.bool b5, .slice a5 n5 c5]) y ∧ Below w.heap.size w wq) w1 → Up w1 w2 → (fun wq => Row wq gD 27 16 (limb oa) ∧ Row wq gE 27 16 (limb od) ∧ Row wq gF 27 16 (limb om) ∧ Row wq gA 27 16 (limb ex) ∧ Row wq (gA + 1) 27 16 (limb ey) ∧ Blk wq gX 30 #[.bool b4, .slice a4 n4 c4] ∧ Blk wq gY 30 #[.bool b5, .slice a5 n5 c5] ∧ Big wq (.agg #[.bool b4, .slice a4 n4 c4]) x ∧ Big wq (.agg #[.bool b5, .slice a5 n5 c5]) y ∧ Below w.heap.size w wq) w2) _ _ hSS hwTf
    clear hwT hwTf hRT
    refine wpAnyU_pure (i := 21) (d := (some 82)) (v := ?_) rfl rfl (by kernel_rfl) (fun _ _ _ h => h) (fun _ _ h hu => ⟨(h.1).up hu, (h.2.1).up hu, (h.2.2.1).up hu, (h.2.2.2.1).up hu, (h.2.2.2.2.1).up hu, (h.2.2.2.2.2.1).up hu, (h.2.2.2.2.2.2.1).up hu, (h.2.2.2.2.2.2.2.1).up hu, (h.2.2.2.2.2.2.2.2.1).up hu, below_up (h.2.2.2.2.2.2.2.2.2) hu⟩) (Or.inl ⟨by rfl, fun w' _ => yu_value ?_⟩) ?_
    rotate_left
    · (go_simp; (try exact rfl))
    try simp only [Act.put, List.setIfInBounds_toArray, List.set_cons_zero, List.set_cons_succ]
    refine wpAnyU_pure (i := 22) (d := (some 83)) (v := ?_) rfl rfl (by kernel_rfl) (fun _ _ _ h => h) (fun _ _ h hu => ⟨(h.1).up hu, (h.2.1).up hu, (h.2.2.1).up hu, (h.2.2.2.1).up hu, (h.2.2.2.2.1).up hu, (h.2.2.2.2.2.1).up hu, (h.2.2.2.2.2.2.1).up hu, (h.2.2.2.2.2.2.2.1).up hu, (h.2.2.2.2.2.2.2.2.1).up hu, below_up (h.2.2.2.2.2.2.2.2.2) hu⟩) (Or.inl ⟨by rfl, fun w' _ => yu_value ?_⟩) ?_
    rotate_left
    · (go_simp; (try exact rfl))
    try simp only [Act.put, List.setIfInBounds_toArray, List.set_cons_zero, List.set_cons_succ]
    refine wpAnyU_take (i := 23) (d := (some 84)) (v := _) rfl rfl (by kernel_rfl) (fun _ _ _ h => h) (fun _ _ h hu => ⟨(h.1).up hu, (h.2.1).up hu, (h.2.2.1).up hu, (h.2.2.2.1).up hu, (h.2.2.2.2.1).up hu, (h.2.2.2.2.2.1).up hu, (h.2.2.2.2.2.2.1).up hu, (h.2.2.2.2.2.2.2.1).up hu, (h.2.2.2.2.2.2.2.2.1).up hu, below_up (h.2.2.2.2.2.2.2.2.2) hu⟩) hSS (Or.inl ⟨by rfl, fun w' hSw => yu_value (run_ld undW infoW _ rfl _ rfl hSw.2.2.2.1)⟩) ?_
    try simp only [Act.put, List.setIfInBounds_toArray, List.set_cons_zero, List.set_cons_succ]
    refine wpAnyU_take (i := 24) (d := (some 85)) (v := _) rfl rfl (by kernel_rfl) (fun _ _ _ h => h) (fun _ _ h hu => ⟨(h.1).up hu, (h.2.1).up hu, (h.2.2.1).up hu, (h.2.2.2.1).up hu, (h.2.2.2.2.1).up hu, (h.2.2.2.2.2.1).up hu, (h.2.2.2.2.2.2.1).up hu, (h.2.2.2.2.2.2.2.1).up hu, (h.2.2.2.2.2.2.2.2.1).up hu, below_up (h.2.2.2.2.2.2.2.2.2) hu⟩) hSS (Or.inl ⟨by rfl, fun w' hSw => yu_value (run_ld undW infoW _ rfl _ rfl hSw.2.2.2.2.1)⟩) ?_
    try simp only [Act.put, List.setIfInBounds_toArray, List.set_cons_zero, List.set_cons_succ]
    refine wpAnyU_take (i := 25) (d := (some 86)) (v := _) rfl rfl (by kernel_rfl) (fun _ _ _ h => h) (fun _ _ h hu => ⟨(h.1).up hu, (h.2.1).up hu, (h.2.2.1).up hu, (h.2.2.2.1).up hu, (h.2.2.2.2.1).up hu, (h.2.2.2.2.2.1).up hu, (h.2.2.2.2.2.2.1).up hu, (h.2.2.2.2.2.2.2.1).up hu, (h.2.2.2.2.2.2.2.2.1).up hu, below_up (h.2.2.2.2.2.2.2.2.2) hu⟩) hSS (Or.inl ⟨by rfl, fun w' hSw => yu_call ?_ (HAc.out _)⟩) ?_
    · go_simp
    try simp only [Act.put, List.setIfInBounds_toArray, List.set_cons_zero, List.set_cons_succ]
    refine wpAnyU_take (i := 26) (d := (some 87)) (v := _) rfl rfl (by kernel_rfl) (fun _ _ _ h => h) (fun _ _ h hu => ⟨(h.1).up hu, (h.2.1).up hu, (h.2.2.1).up hu, (h.2.2.2.1).up hu, (h.2.2.2.2.1).up hu, (h.2.2.2.2.2.1).up hu, (h.2.2.2.2.2.2.1).up hu, (h.2.2.2.2.2.2.2.1).up hu, (h.2.2.2.2.2.2.2.2.1).up hu, below_up (h.2.2.2.2.2.2.2.2.2) hu⟩) hSS (Or.inl ⟨by rfl, fun w' hSw => yu_value (run_ldB rfl rfl hSw.2.2.2.2.2.1 rfl)⟩) ?_
    try simp only [Act.put, List.setIfInBounds_toArray, List.set_cons_zero, List.set_cons_succ]
    refine wpAnyU_take (i := 27) (d := (some 88)) (v := _) rfl rfl (by kernel_rfl) (fun _ _ _ h => h) (fun _ _ h hu => ⟨(h.1).up hu, (h.2.1).up hu, (h.2.2.1).up hu, (h.2.2.2.1).up hu, (h.2.2.2.2.1).up hu, (h.2.2.2.2.2.1).up hu, (h.2.2.2.2.2.2.1).up hu, (h.2.2.2.2.2.2.2.1).up hu, (h.2.2.2.2.2.2.2.2.1).up hu, below_up (h.2.2.2.2.2.2.2.2.2) hu⟩) hSS (Or.inl ⟨by rfl, fun w' hSw => yu_value (run_ldB rfl rfl hSw.2.2.2.2.2.2.1 rfl)⟩) ?_
    try simp only [Act.put, List.setIfInBounds_toArray, List.set_cons_zero, List.set_cons_succ]
    refine wpAnyU_take (i := 28) (d := (some 89)) (v := _) rfl rfl (by kernel_rfl) (fun _ _ _ h => h) (fun _ _ h hu => ⟨(h.1).up hu, (h.2.1).up hu, (h.2.2.1).up hu, (h.2.2.2.1).up hu, (h.2.2.2.2.1).up hu, (h.2.2.2.2.2.1).up hu, (h.2.2.2.2.2.2.1).up hu, (h.2.2.2.2.2.2.2.1).up hu, (h.2.2.2.2.2.2.2.2.1).up hu, below_up (h.2.2.2.2.2.2.2.2.2) hu⟩) hSS (Or.inl ⟨by rfl, fun w' hSw => yu_call ?_ (HCB.out _ _ _ hSw.2.2.2.2.2.2.2.1 hSw.2.2.2.2.2.2.2.2.1)⟩) ?_
    · go_simp
    try simp only [Act.put, List.setIfInBounds_toArray, List.set_cons_zero, List.set_cons_succ]
    refine wpAnyU_pure (i := 29) (d := (some 90)) (v := ?_) rfl rfl (by kernel_rfl) (fun _ _ _ h => h) (fun _ _ h hu => ⟨(h.1).up hu, (h.2.1).up hu, (h.2.2.1).up hu, (h.2.2.2.1).up hu, (h.2.2.2.2.1).up hu, (h.2.2.2.2.2.1).up hu, (h.2.2.2.2.2.2.1).up hu, (h.2.2.2.2.2.2.2.1).up hu, (h.2.2.2.2.2.2.2.2.1).up hu, below_up (h.2.2.2.2.2.2.2.2.2) hu⟩) (Or.inl ⟨by rfl, fun w' _ => yu_value ?_⟩) ?_
    rotate_left
    · (go_simp; (try exact rfl))
    try simp only [Act.put, List.setIfInBounds_toArray, List.set_cons_zero, List.set_cons_succ]
    refine wpAnyU_pure (i := 30) (d := (some 91)) (v := ?_) rfl rfl (by kernel_rfl) (fun _ _ _ h => h) (fun _ _ h hu => ⟨(h.1).up hu, (h.2.1).up hu, (h.2.2.1).up hu, (h.2.2.2.1).up hu, (h.2.2.2.2.1).up hu, (h.2.2.2.2.2.1).up hu, (h.2.2.2.2.2.2.1).up hu, (h.2.2.2.2.2.2.2.1).up hu, (h.2.2.2.2.2.2.2.2.1).up hu, below_up (h.2.2.2.2.2.2.2.2.2) hu⟩) (Or.inl ⟨by rfl, fun w' _ => yu_value ?_⟩) ?_
    rotate_left
    · (go_simp; (try exact rfl))
    try simp only [Act.put, List.setIfInBounds_toArray, List.set_cons_zero, List.set_cons_succ]
    refine wpAnyU_pure (i := 31) (d := (some 92)) (v := ?_) rfl rfl (by kernel_rfl) (fun _ _ _ h => h) (fun _ _ h hu => ⟨(h.1).up hu, (h.2.1).up hu, (h.2.2.1).up hu, (h.2.2.2.1).up hu, (h.2.2.2.2.1).up hu, (h.2.2.2.2.2.1).up hu, (h.2.2.2.2.2.2.1).up hu, (h.2.2.2.2.2.2.2.1).up hu, (h.2.2.2.2.2.2.2.2.1).up hu, below_up (h.2.2.2.2.2.2.2.2.2) hu⟩) (Or.inl ⟨by rfl, fun w' _ => yu_value ?_⟩) ?_
    rotate_left
    · (go_simp; (try exact rfl))
    try simp only [Act.put, List.setIfInBounds_toArray, List.set_cons_zero, List.set_cons_succ]
    refine wpAnyU_take (i := 32) (d := (some 93)) (v := _) rfl rfl (by kernel_rfl) (fun _ _ _ h => h) (fun _ _ h hu => ⟨(h.1).up hu, (h.2.1).up hu, (h.2.2.1).up hu, (h.2.2.2.1).up hu, (h.2.2.2.2.1).up hu, (h.2.2.2.2.2.1).up hu, (h.2.2.2.2.2.2.1).up hu, (h.2.2.2.2.2.2.2.1).up hu, (h.2.2.2.2.2.2.2.2.1).up hu, below_up (h.2.2.2.2.2.2.2.2.2) hu⟩) hSS (Or.inl ⟨by rfl, fun w' hSw => yu_value (run_ld undW infoW _ rfl _ rfl hSw.2.2.2.1)⟩) ?_
    try simp only [Act.put, List.setIfInBounds_toArray, List.set_cons_zero, List.set_cons_succ]
    refine wpAnyU_take (i := 33) (d := (some 94)) (v := _) rfl rfl (by kernel_rfl) (fun _ _ _ h => h) (fun _ _ h hu => ⟨(h.1).up hu, (h.2.1).up hu, (h.2.2.1).up hu, (h.2.2.2.1).up hu, (h.2.2.2.2.1).up hu, (h.2.2.2.2.2.1).up hu, (h.2.2.2.2.2.2.1).up hu, (h.2.2.2.2.2.2.2.1).up hu, (h.2.2.2.2.2.2.2.2.1).up hu, below_up (h.2.2.2.2.2.2.2.2.2) hu⟩) hSS (Or.inl ⟨by rfl, fun w' hSw => yu_call ?_ (HAg.out _)⟩) ?_
    · go_simp
    try simp only [Act.put, List.setIfInBounds_toArray, List.set_cons_zero, List.set_cons_succ]
    refine wpAnyU_take (i := 34) (d := (some 95)) (v := _) rfl rfl (by kernel_rfl) (fun _ _ _ h => h) (fun _ _ h hu => ⟨(h.1).up hu, (h.2.1).up hu, (h.2.2.1).up hu, (h.2.2.2.1).up hu, (h.2.2.2.2.1).up hu, (h.2.2.2.2.2.1).up hu, (h.2.2.2.2.2.2.1).up hu, (h.2.2.2.2.2.2.2.1).up hu, (h.2.2.2.2.2.2.2.2.1).up hu, below_up (h.2.2.2.2.2.2.2.2.2) hu⟩) hSS (Or.inl ⟨by rfl, fun w' hSw => yu_value (run_ldB rfl rfl hSw.2.2.2.2.2.1 rfl)⟩) ?_
    try simp only [Act.put, List.setIfInBounds_toArray, List.set_cons_zero, List.set_cons_succ]
    refine wpAnyU_take (i := 35) (d := (some 96)) (v := _) rfl rfl (by kernel_rfl) (fun _ _ _ h => h) (fun _ _ h hu => ⟨(h.1).up hu, (h.2.1).up hu, (h.2.2.1).up hu, (h.2.2.2.1).up hu, (h.2.2.2.2.1).up hu, (h.2.2.2.2.2.1).up hu, (h.2.2.2.2.2.2.1).up hu, (h.2.2.2.2.2.2.2.1).up hu, (h.2.2.2.2.2.2.2.2.1).up hu, below_up (h.2.2.2.2.2.2.2.2.2) hu⟩) hSS (Or.inl ⟨by rfl, fun w' hSw => yu_call ?_ (HSI.out _ _ hSw.2.2.2.2.2.2.2.1)⟩) ?_
    · go_simp
    try simp only [Act.put, List.setIfInBounds_toArray, List.set_cons_zero, List.set_cons_succ]
    refine wpAnyU_pure (i := 36) (d := (some 97)) (v := ?_) rfl rfl (by kernel_rfl) (fun _ _ _ h => h) (fun _ _ h hu => ⟨(h.1).up hu, (h.2.1).up hu, (h.2.2.1).up hu, (h.2.2.2.1).up hu, (h.2.2.2.2.1).up hu, (h.2.2.2.2.2.1).up hu, (h.2.2.2.2.2.2.1).up hu, (h.2.2.2.2.2.2.2.1).up hu, (h.2.2.2.2.2.2.2.2.1).up hu, below_up (h.2.2.2.2.2.2.2.2.2) hu⟩) (Or.inl ⟨by rfl, fun w' _ => yu_value ?_⟩) ?_
    rotate_left
    · (go_simp; (try exact rfl))
    try simp only [Act.put, List.setIfInBounds_toArray, List.set_cons_zero, List.set_cons_succ]
    refine wpAnyU_pure (i := 37) (d := (some 98)) (v := ?_) rfl rfl (by kernel_rfl) (fun _ _ _ h => h) (fun _ _ h hu => ⟨(h.1).up hu, (h.2.1).up hu, (h.2.2.1).up hu, (h.2.2.2.1).up hu, (h.2.2.2.2.1).up hu, (h.2.2.2.2.2.1).up hu, (h.2.2.2.2.2.2.1).up hu, (h.2.2.2.2.2.2.2.1).up hu, (h.2.2.2.2.2.2.2.2.1).up hu, below_up (h.2.2.2.2.2.2.2.2.2) hu⟩) (Or.inl ⟨by rfl, fun w' _ => yu_value ?_⟩) ?_
    rotate_left
    · (go_simp; (try exact rfl))
    try simp only [Act.put, List.setIfInBounds_toArray, List.set_cons_zero, List.set_cons_succ]
    refine wpAnyU_pure (i := 38) (d := (some 99)) (v := ?_) rfl rfl (by kernel_rfl) (fun _ _ _ h => h) (fun _ _ h hu => ⟨(h.1).up hu, (h.2.1).up hu, (h.2.2.1).up hu, (h.2.2.2.1).up hu, (h.2.2.2.2.1).up hu, (h.2.2.2.2.2.1).up hu, (h.2.2.2.2.2.2.1).up hu, (h.2.2.2.2.2.2.2.1).up hu, (h.2.2.2.2.2.2.2.2.1).up hu, below_up (h.2.2.2.2.2.2.2.2.2) hu⟩) (Or.inl ⟨by rfl, fun w' _ => yu_value ?_⟩) ?_
    rotate_left
    · (go_simp; (try exact rfl))
    try simp only [Act.put, List.setIfInBounds_toArray, List.set_cons_zero, List.set_cons_succ]
    refine wpAnyU_take (i := 39) (d := (some 100)) (v := _) rfl rfl (by kernel_rfl) (fun _ _ _ h => h) (fun _ _ h hu => ⟨(h.1).up hu, (h.2.1).up hu, (h.2.2.1).up hu, (h.2.2.2.1).up hu, (h.2.2.2.2.1).up hu, (h.2.2.2.2.2.1).up hu, (h.2.2.2.2.2.2.1).up hu, (h.2.2.2.2.2.2.2.1).up hu, (h.2.2.2.2.2.2.2.2.1).up hu, below_up (h.2.2.2.2.2.2.2.2.2) hu⟩) hSS (Or.inl ⟨by rfl, fun w' hSw => yu_value (run_ld undW infoW _ rfl _ rfl hSw.2.2.2.1)⟩) ?_
    try simp only [Act.put, List.setIfInBounds_toArray, List.set_cons_zero, List.set_cons_succ]
    refine wpAnyU_take (i := 40) (d := (some 101)) (v := _) rfl rfl (by kernel_rfl) (fun _ _ _ h => h) (fun _ _ h hu => ⟨(h.1).up hu, (h.2.1).up hu, (h.2.2.1).up hu, (h.2.2.2.1).up hu, (h.2.2.2.2.1).up hu, (h.2.2.2.2.2.1).up hu, (h.2.2.2.2.2.2.1).up hu, (h.2.2.2.2.2.2.2.1).up hu, (h.2.2.2.2.2.2.2.2.1).up hu, below_up (h.2.2.2.2.2.2.2.2.2) hu⟩) hSS (Or.inl ⟨by rfl, fun w' hSw => yu_call ?_ (HAb.out _)⟩) ?_
    · go_simp
    try simp only [Act.put, List.setIfInBounds_toArray, List.set_cons_zero, List.set_cons_succ]
    refine wpAnyU_take (i := 41) (d := (some 102)) (v := _) rfl rfl (by kernel_rfl) (fun _ _ _ h => h) (fun _ _ h hu => ⟨(h.1).up hu, (h.2.1).up hu, (h.2.2.1).up hu, (h.2.2.2.1).up hu, (h.2.2.2.2.1).up hu, (h.2.2.2.2.2.1).up hu, (h.2.2.2.2.2.2.1).up hu, (h.2.2.2.2.2.2.2.1).up hu, (h.2.2.2.2.2.2.2.2.1).up hu, below_up (h.2.2.2.2.2.2.2.2.2) hu⟩) hSS (Or.inl ⟨by rfl, fun w' hSw => yu_value (run_ldB rfl rfl hSw.2.2.2.2.2.1 rfl)⟩) ?_
    try simp only [Act.put, List.setIfInBounds_toArray, List.set_cons_zero, List.set_cons_succ]
    refine wpAnyU_take (i := 42) (d := (some 103)) (v := _) rfl rfl (by kernel_rfl) (fun _ _ _ h => h) (fun _ _ h hu => ⟨(h.1).up hu, (h.2.1).up hu, (h.2.2.1).up hu, (h.2.2.2.1).up hu, (h.2.2.2.2.1).up hu, (h.2.2.2.2.2.1).up hu, (h.2.2.2.2.2.2.1).up hu, (h.2.2.2.2.2.2.2.1).up hu, (h.2.2.2.2.2.2.2.2.1).up hu, below_up (h.2.2.2.2.2.2.2.2.2) hu⟩) hSS (Or.inl ⟨by rfl, fun w' hSw => yu_call ?_ (HBB.out _ _ hSw.2.2.2.2.2.2.2.1)⟩) ?_
    · go_simp
    try simp only [Act.put, List.setIfInBounds_toArray, List.set_cons_zero, List.set_cons_succ]
    refine wpAnyU_pure (i := 43) (d := (some 104)) (v := ?_) rfl rfl (by kernel_rfl) (fun _ _ _ h => h) (fun _ _ h hu => ⟨(h.1).up hu, (h.2.1).up hu, (h.2.2.1).up hu, (h.2.2.2.1).up hu, (h.2.2.2.2.1).up hu, (h.2.2.2.2.2.1).up hu, (h.2.2.2.2.2.2.1).up hu, (h.2.2.2.2.2.2.2.1).up hu, (h.2.2.2.2.2.2.2.2.1).up hu, below_up (h.2.2.2.2.2.2.2.2.2) hu⟩) (Or.inl ⟨by rfl, fun w' _ => yu_value ?_⟩) ?_
    rotate_left
    · (go_simp; (try exact rfl))
    try simp only [Act.put, List.setIfInBounds_toArray, List.set_cons_zero, List.set_cons_succ]
    refine wpAnyU_pure (i := 44) (d := (some 105)) (v := ?_) rfl rfl (by kernel_rfl) (fun _ _ _ h => h) (fun _ _ h hu => ⟨(h.1).up hu, (h.2.1).up hu, (h.2.2.1).up hu, (h.2.2.2.1).up hu, (h.2.2.2.2.1).up hu, (h.2.2.2.2.2.1).up hu, (h.2.2.2.2.2.2.1).up hu, (h.2.2.2.2.2.2.2.1).up hu, (h.2.2.2.2.2.2.2.2.1).up hu, below_up (h.2.2.2.2.2.2.2.2.2) hu⟩) (Or.inl ⟨by rfl, fun w' _ => yu_value ?_⟩) ?_
    rotate_left
    · (go_simp; (try exact rfl))
    try simp only [Act.put, List.setIfInBounds_toArray, List.set_cons_zero, List.set_cons_succ]
    refine wpAnyU_pure (i := 45) (d := (some 16)) (v := ?_) rfl rfl (by kernel_rfl) (fun _ _ _ h => h) (fun _ _ h hu => ⟨(h.1).up hu, (h.2.1).up hu, (h.2.2.1).up hu, (h.2.2.2.1).up hu, (h.2.2.2.2.1).up hu, (h.2.2.2.2.2.1).up hu, (h.2.2.2.2.2.2.1).up hu, (h.2.2.2.2.2.2.2.1).up hu, (h.2.2.2.2.2.2.2.2.1).up hu, below_up (h.2.2.2.2.2.2.2.2.2) hu⟩) (Or.inl ⟨by rfl, fun w' _ => yu_value ?_⟩) ?_
    rotate_left
    · (go_simp; (try exact rfl))
    try simp only [Act.put, List.setIfInBounds_toArray, List.set_cons_zero, List.set_cons_succ]
    refine wpAnyU_done (by kernel_rfl) (fun wF huE => ?_) _
    have gL := below_up (hSS.2.2.2.2.2.2.2.2.2) huE
    clear hS1 hS2 hS3 hS4 hS5 hS6 hS7 hS8 hS9 hSB hSS huE rA rB rL dX dY hX hY rD rE rF
    go_wp2
    go_ret
    exact ⟨rfl, gL⟩
end Go.Proofs.Ytlkolfnklbldcaa
