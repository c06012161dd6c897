/-
  What the claim's law is built of: WParts, Lim.
-/
import Derived.Test.YtbogbdokllmanaaPi
import Derived.Deep.DeepCutAuto
import Derived.Deep.CutRange
import Derived.OpenShut
/-
  WideParts: each quotient, rest, nearest number of wide numbers, or that there is none.
-/
namespace Go.Proofs.Ytbogbdokllmanaa
open Go Go.RowKit
set_option maxRecDepth 100000

theorem nl_in2 {z : Int} (h : InR z) : nl z.natAbs < 50000 := by
  have h1 := enc_natAbs h
  have := nl_le (x := z.natAbs) (k := 16) (by omega)
  omega
theorem nl_three {x y : Int} (hx : InR x) (hy : InR y) : nl (2 * x).natAbs < 50000 ∧ nl (2 * y).natAbs < 50000 ∧ nl (2 * x + y).natAbs < 50000 ∧ nl (x.tdiv y).natAbs < 50000 ∧ nl (x.tmod y).natAbs < 50000 := by
  have h1 := (enc_natAbs hx).2
  have h2 := (enc_natAbs hy).2
  have h3 : bp 17 = bp 16 * 18446744073709551616 := bp_succ 16
  have e1 : (2 * x).natAbs = 2 * x.natAbs := by rw [Int.natAbs_mul]; rfl
  have e2 : (2 * y).natAbs = 2 * y.natAbs := by rw [Int.natAbs_mul]; rfl
  have e3 := Int.natAbs_add_le (2 * x) y
  have e4 : (x.tdiv y).natAbs ≤ x.natAbs := tdiv_le x y
  have e5 : (x.tmod y).natAbs ≤ x.natAbs := by rw [Int.natAbs_tmod]; exact Nat.mod_le _ _
  generalize (2 * x).natAbs = t1 at *
  generalize (2 * y).natAbs = t2 at *
  generalize (2 * x + y).natAbs = t3 at *
  generalize (x.tdiv y).natAbs = t4 at *
  generalize (x.tmod y).natAbs = t5 at *
  generalize x.natAbs = xa at *
  generalize y.natAbs = ya at *
  generalize bp 16 = B at *
  refine ⟨?_, ?_, ?_, ?_, ?_⟩
  · have := nl_le (x := t1) (k := 17) (by omega); omega
  · have := nl_le (x := t2) (k := 17) (by omega); omega
  · have := nl_le (x := t3) (k := 17) (by omega); omega
  · have := nl_le (x := t4) (k := 17) (by omega); omega
  · have := nl_le (x := t5) (k := 17) (by omega); omega
/-- Div's answers. -/
theorem divZV_parts (x y : Int) : ∃ (fq fr : Nat → Nat) (kq : Bool), divZV x y = .tuple #[.agg (cells 16 fq), .agg (cells 16 fr), .bool kq] ∧ (y = 0 → fq = (fun _ => 0) ∧ fr = (fun _ => 0) ∧ kq = false) ∧
    (y ≠ 0 → opt (x.tdiv y) = .tuple #[.agg (cells 16 fq), .bool kq] ∧ (kq = true → fr = limb (enc (x.tmod y))) ∧ (kq = false → fr = fun _ => 0)) := by
  by_cases h : y = 0 ∨ ¬ InR (x.tdiv y)
  · refine ⟨fun _ => 0, fun _ => 0, false, by unfold divZV; rw [if_pos h], fun _ => ⟨rfl, rfl, rfl⟩, fun h0 => ⟨?_, (fun h1 => by cases h1), fun _ => rfl⟩⟩
    rcases h with h | h
    · exact absurd h h0
    · exact opt_no h
  · have hq : InR (x.tdiv y) := Classical.byContradiction fun h1 => h (.inr h1)
    refine ⟨limb (enc (x.tdiv y)), limb (enc (x.tmod y)), true, by unfold divZV; rw [if_neg h]; rfl, fun h0 => absurd (.inl h0) h, fun _ => ⟨opt_yes hq, fun _ => rfl, fun h1 => by cases h1⟩⟩
/-- Round's answers. -/
theorem roundV_parts (x y : Int) : ∃ (fn : Nat → Nat) (kn : Bool), roundV x y = .tuple #[.agg (cells 16 fn), .bool kn] ∧ (kn = true → 0 < y ∧ InR (2 * x) ∧ InR (2 * y) ∧ InR (2 * x + y) ∧ fn = limb (enc ((2 * x + y) / (2 * y)))) ∧
    (kn = false → fn = (fun _ => 0) ∧ (y ≤ 0 ∨ ¬ InR (2 * x) ∨ ¬ InR (2 * y) ∨ ¬ InR (2 * x + y))) := by
  have e1 : x + x = 2 * x := by omega
  have e2 : y + y = 2 * y := by omega
  unfold roundV
  rw [e1, e2]
  by_cases h : 0 < y ∧ InR (2 * x) ∧ InR (2 * y) ∧ InR (2 * x + y)
  · exact ⟨_, true, by rw [if_pos h]; rfl, fun _ => ⟨h.1, h.2.1, h.2.2.1, h.2.2.2, rfl⟩, fun h1 => by cases h1⟩
  · refine ⟨_, false, by rw [if_neg h], (fun h1 => by cases h1), fun _ => ⟨rfl, ?_⟩⟩
    rcases Classical.em (0 < y) with h1 | h1
    · rcases Classical.em (InR (2 * x)) with h2 | h2
      · rcases Classical.em (InR (2 * y)) with h3 | h3
        · exact .inr (.inr (.inr fun h4 => h ⟨h1, h2, h3, h4⟩))
        · exact .inr (.inr (.inl h3))
      · exact .inr (.inl h2)
    · exact .inl (by omega)
theorem near_in {x y : Int} (hy : 0 < y) (h : InR (2 * x + y)) : InR ((2 * x + y) / (2 * y)) := by
  have h1 := tdiv_in h (show 0 < 2 * y by omega)
  rw [round_floor (show 0 < 2 * y by omega)]
  split
  · rename_i h2; exact h1.2 h2
  · exact h1.1
theorem neSZP {ops : Array Oper} {rest : List Oper} {Q : Exit → Act → World → Prop} {a : Act} {w : World} {d : Option Tmp} {s r : Tmp} {u ty : TypeId} {pos : String} {af : Array Edge} {gd : Option (Nat × Bool)}
    (hw : Region.wanted { dst := d, op := .binOp .neq 27 (.tmp s) (.tmp r) u, type := ty, pos := pos, after := af, guard := gd } (yielded ops a.tmps) = true) (hx : a.eval (.tmp s) = .agg (cells 16 (fun _ => 0))) (hy : a.eval (.tmp r) = .agg #[.int .u64 0, .int .u64 0, .int .u64 0, .int .u64 0, .int .u64 0, .int .u64 0, .int .u64 0, .int .u64 0, .int .u64 0, .int .u64 0, .int .u64 0, .int .u64 0, .int .u64 0, .int .u64 0, .int .u64 0, .int .u64 0])
    (h : wpList Try.prog ops Q rest (a.put d (.bool false)) w) : wpList Try.prog ops Q ({ dst := d, op := .binOp .neq 27 (.tmp s) (.tmp r) u, type := ty, pos := pos, after := af, guard := gd } :: rest) a w :=
  wpList_run hw ((op_neW (p := enc 0) (q := enc 0) rfl (by rw [hx, zero_limb]) (by rw [hy, zeros16, zero_limb]) (enc_lt 0) (enc_lt 0) w).trans (by simp)) h
theorem wpOp_allocW {ops : Array Oper} {Q : Exit → Act → World → Prop} {md : Region.Mode} {S : World → Prop} {req : Nat → Bool} {i : Nat} {o : Oper} {d : Option Tmp} {fuel : Nat} {listed : Array Bool} {a : Act} {w : World}
    (hi : ops[i]? = some o) (hd : o.dst = d) (hw : Region.wanted o (yielded ops a.tmps) = true) (ho : o.op = .alloc 27) (hSup : ∀ w w', S w → Up w w' → S w')
    (h : wpAnyU Try.prog md ops Q S req fuel (listed.setIfInBounds i true) (a.put d (.pointer (some ⟨w.heap.size, 0, none⟩))) (w.alloc (.cells (cells 16 (fun _ => 0)) 27))) : wpOp Try.prog ops Q i (fun a' w'' => (req i = true → S w → S w'') ∧ wpAnyU Try.prog md ops Q S req fuel (listed.setIfInBounds i true) a' w'') a w := by
  unfold wpOp
  simp only [hi, hw, if_true]
  refine .inl ?_
  unfold Oper.wp
  rw [run_allocW ho w]
  subst hd
  exact ⟨fun _ hS => hSup _ _ hS (Up.alloc _ _), h⟩
theorem wpAnyU_caW {ops : Array Oper} {Q : Exit → Act → World → Prop} {md : Region.Mode} {S : World → Prop} {req : Nat → Bool} {i j : Nat} {o oj : Oper} {d dj : Option Tmp} {fuel : Nat} {listed : Array Bool} {a : Act} {w : World} {f : FuncId} {args : Array Value} {R : Value → World → Prop} (hr : Region.ready md ops listed = [i, j])
    (hi : ops[i]? = some o) (hd : o.dst = d) (hw : Region.wanted o (yielded ops a.tmps) = true) (hj : ops[j]? = some oj) (hdj : oj.dst = dj) (hwj : Region.wanted oj (yielded ops a.tmps) = true) (hoj : oj.op = .alloc 27) (hSup : ∀ w w', S w → Up w w' → S w')
    (hrun : ∀ w', (execOp a.eval o).run Try.prog w' = .ok (.enter f args) w') (hc : ∀ w', Up w w' → Calls Try.prog f args w' fun e w'' => Up w' w'' ∧ ∃ v, e = .returned v ∧ R v w'')
    (h : ∀ v w'', Up w w'' → R v w'' → wpAnyU Try.prog md ops Q S req fuel (listed.setIfInBounds i true) (a.put d v) w'')
    (h1 : ∀ w1, Up w w1 → wpAnyU Try.prog md ops Q S req fuel (listed.setIfInBounds j true) (a.put dj (.pointer (some ⟨w1.heap.size, 0, none⟩))) (w1.alloc (.cells (cells 16 (fun _ => 0)) 27))) : wpAnyU Try.prog md ops Q S req (fuel + 1) listed a w :=
  wpAnyU_all hr (by simp) fun w' hw' x hx => by
    simp only [List.mem_cons, List.not_mem_nil, or_false] at hx
    rcases hx with rfl | rfl
    · exact wpOp_callE hi hd hw hSup (hrun w') (hc w' hw') fun v w'' hu hR => h v w'' (hw'.trans hu) hR
    · exact wpOp_allocW hj hdj hwj hoj hSup (h1 w' hw')
/-- What stands behind the two whole numbers' making. -/
def Two (w : World) (ga gb ea eb : Nat) (x y : Int) (t19 t20 : Value) (wc : World) : Prop :=
  ∃ p q va vb, t19 = .pointer (some ⟨p, 0, none⟩) ∧ t20 = .pointer (some ⟨q, 0, none⟩) ∧ (∃ b a n c, va = .agg #[.bool b, .slice a n c] ∧ Blk wc p 30 #[.bool b, .slice a n c]) ∧ (∃ b a n c, vb = .agg #[.bool b, .slice a n c] ∧ Blk wc q 30 #[.bool b, .slice a n c]) ∧
    Big wc va x ∧ Big wc vb y ∧ Row wc ga 27 16 (limb ea) ∧ Row wc gb 27 16 (limb eb) ∧ Below w.heap.size w wc
theorem sums4 {w wS w0 s1 s2 wF : World} {p q ga gb ea eb : Nat} {x y : Int} {b4 b5 : Bool} {a4 a5 : Option Addr} {n4 c4 n5 c5 : Nat} (hSS : Row wS ga 27 16 (limb ea) ∧ Row wS gb 27 16 (limb eb) ∧ Below w.heap.size w wS) (hU : Up wS w0) (hs1 : Up w0 s1) (k1 : Blk s1 p 30 #[.bool false, .slice none 0 0])
    (hs2 : Up (s1.setRow p #[.bool b4, .slice a4 n4 c4]) s2) (k2 : Blk s2 q 30 #[.bool false, .slice none 0 0]) (huE : Up (s2.setRow q #[.bool b5, .slice a5 n5 c5]) wF) (hX : Big w0 (.agg #[.bool b4, .slice a4 n4 c4]) x) (hY : Big w0 (.agg #[.bool b5, .slice a5 n5 c5]) y)
    (hp : wS.heap.size ≤ p) (hq : wS.heap.size ≤ q) (hne : q ≠ p) : Two w ga gb ea eb x y (.pointer (some ⟨p, 0, none⟩)) (.pointer (some ⟨q, 0, none⟩)) wF := by
  obtain ⟨hA, hB, hL⟩ := hSS
  have l1 := hA.lt
  have l2 := hB.lt
  have l3 := hL.size
  refine ⟨p, q, _, _, rfl, rfl, ⟨_, _, _, _, rfl, ?_⟩, ⟨_, _, _, _, rfl, (k2.setRow _).up huE⟩, ((((hX.up hs1).setRow k1).up hs2).setRow k2).up huE, ((((hY.up hs1).setRow k1).up hs2).setRow k2).up huE, ?_, ?_, ?_⟩
  · exact (((k1.setRow _).up hs2).row_other _ (Ne.symm hne)).up huE
  · exact (((((hA.up hU).up hs1).row_other _ (show ga ≠ p by omega)).up hs2).row_other _ (show ga ≠ q by omega)).up huE
  · exact (((((hB.up hU).up hs1).row_other _ (show gb ≠ p by omega)).up hs2).row_other _ (show gb ≠ q by omega)).up huE
  · exact below_up (below_setRow (below_up (below_setRow (below_up (below_up hL hU) hs1) (show w.heap.size ≤ p by omega) _) hs2) (show w.heap.size ≤ q by omega) _) huE
theorem sign_big {z : Int} {v : Value} {w : World} (h : Big w v z) :
    Calls Try.prog 9 #[v] w fun e w' => e = .returned (.int .i64 (sgn z)) ∧ Up w w' := by
  obtain ⟨a, c, rfl, -⟩ := h
  refine (bsign_any _ _ _ _ _).mono ?_
  rintro e w' ⟨rfl, hu⟩
  exact ⟨ret_int sgn_big, hu⟩
/-- What is kept over the laws' last lines. -/
def Five (w : World) (gN gT gX gY : Nat) (fn : Nat → Nat) (qo : Bool) (ao : Option Addr) (no co : Nat) (b4 : Bool) (a4 : Option Addr) (n4 c4 : Nat) (b5 : Bool) (a5 : Option Addr) (n5 c5 : Nat) (x y : Int) (wc : World) : Prop :=
  Row wc gN 27 16 fn ∧ Blk wc gT 30 #[.bool qo, .slice ao no co] ∧ Blk wc gX 30 #[.bool b4, .slice a4 n4 c4] ∧ Blk wc gY 30 #[.bool b5, .slice a5 n5 c5] ∧
    Big wc (.agg #[.bool qo, .slice ao no co]) 2 ∧ Big wc (.agg #[.bool b4, .slice a4 n4 c4]) x ∧ Big wc (.agg #[.bool b5, .slice a5 n5 c5]) y ∧ Below w.heap.size w wc
set_option maxHeartbeats 20000000 in
theorem wparts_w {a0 a1 : Option Addr} {l0 l1 c0 c1 : Nat} {f0 f1 : Nat → Nat} (n p k j : Nat) (hn : n < 65536) (hp : p < 65536) (hk : k < 256) (hj : j < 256) (neg meg : Bool) (w : World) (h0 : Lim w a0 l0 f0) (h1 : Lim w a1 l1 f1) :
    Calls Try.prog 3 #[.slice a0 l0 c0, .slice a1 l1 c1, .int .u16 n, .int .u16 p, .int .u8 k, .int .u8 j, .bool neg, .bool meg] w fun e w' => e = .returned (.bool true) ∧ Up w w' := by
  obtain ⟨x, hx, -, cx⟩ := wmade_any n k hn hk neg w h0
  obtain ⟨y, hy, -, cy⟩ := wmade_any p j hp hj meg w h1
  obtain ⟨n2x, n2y, nxy, nq, nr⟩ := nl_three hx hy
  have nx := nl_in2 hx
  have ny := nl_in2 hy
  have n2 : nl (2 : Int).natAbs < 50000 := by
    have := nl_le (x := 2) (k := 1) (by rw [bp_succ, bp_zero]; omega)
    have e : (2 : Int).natAbs = 2 := rfl
    rw [e]
    omega
  have fx := fun w => from_wide hx w
  have fy := fun w => from_wide hy w
  obtain ⟨fq, fr, kq, edv, hq0, hq1⟩ := divZV_parts x y
  obtain ⟨fn, kn, ern, hn1, hn0⟩ := roundV_parts x y
  have xd := fun w => div_any hx hy w
  have xr := fun w => round_z hx hy (fun h2 _ h3 h4 w => divide_any (enc_natAbs h4).2 (enc_natAbs h3).2 (by omega) w) w
  rw [edv] at xd
  rw [ern] at xr
  obtain ⟨ou, ku, eu⟩ : ∃ (o : Nat) (k : Bool), opt (2 * x) = .tuple #[.agg (cells 16 (limb o)), .bool k] := ⟨_, _, rfl⟩
  obtain ⟨ov, kv, ev⟩ : ∃ (o : Nat) (k : Bool), opt (2 * y) = .tuple #[.agg (cells 16 (limb o)), .bool k] := ⟨_, _, rfl⟩
  obtain ⟨ow, kw, ew⟩ : ∃ (o : Nat) (k : Bool), opt (2 * x + y) = .tuple #[.agg (cells 16 (limb o)), .bool k] := ⟨_, _, rfl⟩
  have bu : ku = decide (InR (2 * x)) := by unfold opt at eu; simp at eu; exact eu.2.symm
  have bv : kv = decide (InR (2 * y)) := by unfold opt at ev; simp at ev; exact ev.2.symm
  have bw : kw = decide (InR (2 * x + y)) := by unfold opt at ew; simp at ew; exact ew.2.symm
  have HML := hid (fun w a b (ha : Big w a 2) (hb : Big w b x) => mul_big ha hb n2 nx)
  have HMY := hid (fun w a b (ha : Big w a 2) (hb : Big w b y) => mul_big ha hb n2 ny)
  have HAD := hid (fun w a b (ha : Big w a (2 * x)) (hb : Big w b y) => add_big ha hb n2x ny)
  have HTU := hid (fun w u (h : Big w u (2 * x)) => to_any h n2x)
  have HTV := hid (fun w u (h : Big w u (2 * y)) => to_any h n2y)
  have HTW := hid (fun w u (h : Big w u (2 * x + y)) => to_any h nxy)
  rw [eu] at HTU
  rw [ev] at HTV
  rw [ew] at HTW
  have HO2 := hid (fun w => of_big 2 (by decide) (by decide) w)
  have HDB := hid (fun w a b (ha : Big w a x) (hb : Big w b y) (h0 : y ≠ 0) => div_big2 ha hb nx ny (by omega))
  have HRN := hid (fun w a b (ha : Big w a x) (hb : Big w b y) (h0 : 0 < y) => round_big2 ha hb h0 nx ny n2x nxy n2y)
  have HSI := hid (fun w a (ha : Big w a y) => sign_big ha)
  have Hq0 := hid hq0
  have Hq1 := hid hq1
  have Hn0 := hid hn0
  have Hn1 := hid hn1
  have Hx := hid hx
  have Hy := hid hy
  have Hnq := hid nq
  have Hnr := hid nr
  have HBU := hid bu
  have HBV := hid bv
  have HBW := hid bw
  unfold wideV at *
  generalize enc x = ex at *
  generalize enc y = ey at *
  have HK := hid known_true
  have HA := hid cx
  have HB := hid cy
  have HAd := hid xd
  have HAr := hid xr
  have HFa := hid fx
  have HFb := hid fy
  clear cx cy xd xr fx fy eu ev ew hx hy h0 h1 n2x n2y nxy nq nr nx ny n2 hq0 hq1 hn0 hn1 edv ern bu bv bw
  go_enter Try.func3, Try.ntmps3
  go_upto_region 4 with (first | ((with_reducible apply ld_rowP undW infoW); exact rfl; exact rfl; focus (repeat (first | assumption | ((with_reducible apply row_newc); (focus (first | rfl | (simp; done)))) | ((with_reducible apply row_newz); (focus (first | rfl | (simp; done)))) | (with_reducible apply row_same) | ((with_reducible apply row_else); (focus (first | (simp; done) | (simp; omega) | omega))) | (with_reducible apply row_alloc) | (with_reducible apply row_drew) | (with_reducible apply row_drewN) | ((with_reducible apply row_up); assumption)))) | ((with_reducible apply st_rowP infoW); exact rfl; exact rfl; focus (repeat (first | assumption | ((with_reducible apply row_newc); (focus (first | rfl | (simp; done)))) | ((with_reducible apply row_newz); (focus (first | rfl | (simp; done)))) | (with_reducible apply row_same) | ((with_reducible apply row_else); (focus (first | (simp; done) | (simp; omega) | omega))) | (with_reducible apply row_alloc) | (with_reducible apply row_drew) | (with_reducible apply row_drewN) | ((with_reducible apply row_up); assumption)))) | ((with_reducible apply st_rowZ infoW); exact rfl; exact rfl; focus (repeat (first | assumption | ((with_reducible apply row_newc); (focus (first | rfl | (simp; done)))) | ((with_reducible apply row_newz); (focus (first | rfl | (simp; done)))) | (with_reducible apply row_same) | ((with_reducible apply row_else); (focus (first | (simp; done) | (simp; omega) | omega))) | (with_reducible apply row_alloc) | (with_reducible apply row_drew) | (with_reducible apply row_drewN) | ((with_reducible apply row_up); assumption)))) | (go_at_call 4; refine (HK.out _).mono ?_; rintro e wK ⟨rfl, huK⟩; have hsK := huK.size) | (go_at_call 5; first | ((with_reducible refine (HA.out _ _ (by repeat (first | assumption | (with_reducible apply Up.of) | (with_reducible exact Below.refl _ _) | (with_reducible exact Up.refl _) | ((with_reducible apply bl_setRow); (focus (first | exact Nat.le_refl _ | (simp; done) | (simp; omega) | omega))) | (with_reducible apply below_drewN) | (with_reducible apply Below.drew) | ((with_reducible apply bl_alloc); (focus (first | exact Nat.le_refl _ | (simp; done) | (simp; omega) | omega))) | ((with_reducible apply bl_setCell); (focus (first | exact Nat.le_refl _ | (simp; done) | (simp; omega) | omega))) | ((with_reducible apply up_tr); assumption)))).mono ?_); rintro e wA ⟨rfl, huA⟩; have hsA := huA.size) | ((with_reducible refine (HB.out _ _ (by repeat (first | assumption | (with_reducible apply Up.of) | (with_reducible exact Below.refl _ _) | (with_reducible exact Up.refl _) | ((with_reducible apply bl_setRow); (focus (first | exact Nat.le_refl _ | (simp; done) | (simp; omega) | omega))) | (with_reducible apply below_drewN) | (with_reducible apply Below.drew) | ((with_reducible apply bl_alloc); (focus (first | exact Nat.le_refl _ | (simp; done) | (simp; omega) | omega))) | ((with_reducible apply bl_setCell); (focus (first | exact Nat.le_refl _ | (simp; done) | (simp; omega) | omega))) | ((with_reducible apply up_tr); assumption)))).mono ?_); rintro e wB ⟨rfl, huB⟩; have hsB := huB.size)))
  try simp only [Act.put]
  refine wp_world (fun wd => Row wd wB.heap.size 27 16 (limb ex) ∧ Row wd (wB.heap.size + 1) 27 16 (limb ey) ∧ Below w.heap.size w wd) ⟨(by (repeat (first | assumption | ((with_reducible apply row_newc); (focus (first | rfl | (simp; done)))) | ((with_reducible apply row_newz); (focus (first | rfl | (simp; done)))) | (with_reducible apply row_same) | ((with_reducible apply row_else); (focus (first | (simp; done) | (simp; omega) | omega))) | (with_reducible apply row_alloc) | (with_reducible apply row_drew) | (with_reducible apply row_drewN) | ((with_reducible apply row_up); assumption)))), (by (repeat (first | assumption | ((with_reducible apply row_newc); (focus (first | rfl | (simp; done)))) | ((with_reducible apply row_newz); (focus (first | rfl | (simp; done)))) | (with_reducible apply row_same) | ((with_reducible apply row_else); (focus (first | (simp; done) | (simp; omega) | omega))) | (with_reducible apply row_alloc) | (with_reducible apply row_drew) | (with_reducible apply row_drewN) | ((with_reducible apply row_up); assumption)))), (by repeat (first | assumption | (with_reducible apply Up.of) | (with_reducible exact Below.refl _ _) | (with_reducible exact Up.refl _) | ((with_reducible apply bl_setRow); (focus (first | exact Nat.le_refl _ | (simp; done) | (simp; omega) | omega))) | (with_reducible apply below_drewN) | (with_reducible apply Below.drew) | ((with_reducible apply bl_alloc); (focus (first | exact Nat.le_refl _ | (simp; done) | (simp; omega) | omega))) | ((with_reducible apply bl_setCell); (focus (first | exact Nat.le_refl _ | (simp; done) | (simp; omega) | omega))) | ((with_reducible apply up_tr); assumption)))⟩ (fun w0 hD => ?_)
  obtain ⟨rA, rB, rL⟩ := hD
  clear huK hsK huA hsA huB hsB
  generalize wB.heap.size = gA at *
  go_cut [19, 20] (fun t19 t20 wc => Two w gA (gA + 1) ex ey x y t19 t20 wc)
  case first =>
    refine wp_region_upH (S := (fun wq => Row wq gA 27 16 (limb ex) ∧ Row wq (gA + 1) 27 16 (limb ey) ∧ Below w.heap.size w wq)) (req := (fun j => j != 6 && j != 7)) (by kernel_rfl) (fun _ _ h hu => ⟨(h.1).up hu, (h.2.1).up hu, below_up (h.2.2) hu⟩) ⟨(by (repeat (first | assumption | ((with_reducible apply row_newc); (focus (first | rfl | (simp; done)))) | ((with_reducible apply row_newz); (focus (first | rfl | (simp; done)))) | (with_reducible apply row_same) | ((with_reducible apply row_else); (focus (first | (simp; done) | (simp; omega) | omega))) | (with_reducible apply row_alloc) | (with_reducible apply row_drew) | (with_reducible apply row_drewN) | ((with_reducible apply row_up); assumption)))), (by (repeat (first | assumption | ((with_reducible apply row_newc); (focus (first | rfl | (simp; done)))) | ((with_reducible apply row_newz); (focus (first | rfl | (simp; done)))) | (with_reducible apply row_same) | ((with_reducible apply row_else); (focus (first | (simp; done) | (simp; omega) | omega))) | (with_reducible apply row_alloc) | (with_reducible apply row_drew) | (with_reducible apply row_drewN) | ((with_reducible apply row_up); assumption)))), (by repeat (first | assumption | (with_reducible apply Up.of) | (with_reducible exact Below.refl _ _) | (with_reducible exact Up.refl _) | ((with_reducible apply bl_setRow); (focus (first | exact Nat.le_refl _ | (simp; done) | (simp; omega) | omega))) | (with_reducible apply below_drewN) | (with_reducible apply Below.drew) | ((with_reducible apply bl_alloc); (focus (first | exact Nat.le_refl _ | (simp; done) | (simp; omega) | omega))) | ((with_reducible apply bl_setCell); (focus (first | exact Nat.le_refl _ | (simp; done) | (simp; omega) | omega))) | ((with_reducible apply up_tr); assumption)))⟩ (fun wS hSS hSu => ?_)
    have ⟨hS1, hS2, hSB⟩ := hSS
    refine wpAnyU_take (i := 0) (d := (some 47)) (v := _) rfl rfl (by kernel_rfl) (fun _ _ _ h => h) hSu.out hSS (Or.inl ⟨by rfl, fun w' hSw => yu_value (run_ld undW infoW _ rfl _ rfl hSw.1)⟩) ?_
    try simp only [Act.put, pu1, pu2, pu3]
    refine wpAnyU_take (i := 2) (d := (some 49)) (v := _) rfl rfl (by kernel_rfl) (fun _ _ _ h => h) hSu.out hSS (Or.inl ⟨by rfl, fun w' hSw => yu_value (run_ld undW infoW _ rfl _ rfl hSw.2.1)⟩) ?_
    try simp only [Act.put, pu1, pu2, pu3]
    have hU := Up.refl wS
    refine wpAnyU_ca2 (i := 1) (j := 4) (k := 5) (d := some 48) (dj := some 19) (dk := some 20) (by kernel_rfl) rfl rfl (by rfl) rfl rfl (by rfl) rfl rfl rfl (by rfl) rfl hSu.out (fun w' => by go_simp) (fun w' hw' => HFa.out _) (fun v1 w1 hw1 hr1 => ?_) (fun w1 hw1 => ?_) (fun w1 hw1 => ?_)
    · try simp only [Act.put, pu1, pu2, pu3]
      replace hU := hU.trans hw1
      obtain ⟨b1, a1, n1, c1, rfl⟩ := hr1.shape
      have hX := hr1
      refine wpAnyU_ca2 (i := 3) (j := 4) (k := 5) (d := some 50) (dj := some 19) (dk := some 20) (by kernel_rfl) rfl rfl (by rfl) rfl rfl (by rfl) rfl rfl rfl (by rfl) rfl hSu.out (fun w' => by go_simp) (fun w' hw' => HFb.out _) (fun v2 w2 hw2 hr2 => ?_) (fun w2 hw2 => ?_) (fun w2 hw2 => ?_)
      · try simp only [Act.put, pu1, pu2, pu3]
        replace hU := hU.trans hw2
        replace hX := hX.up hw2
        obtain ⟨b2, a2, n2, c2, rfl⟩ := hr2.shape
        have hY := hr2
        refine wpAnyU_a2 (j := 4) (k := 5) (dj := some 19) (dk := some 20) (by kernel_rfl) rfl rfl (by rfl) rfl rfl rfl (by rfl) rfl hSu.out (fun w3 hw3 => ?_) (fun w3 hw3 => ?_)
        · try simp only [Act.put, pu1, pu2, pu3]
          replace hU := hU.trans hw3
          replace hX := hX.up hw3
          replace hY := hY.up hw3
          have ha3 := Up.alloc w3 (.cells #[.bool false, .slice none 0 0] 30)
          have hp_le : wS.heap.size ≤ w3.heap.size := hU.size
          replace hU := hU.trans ha3
          replace hX := hX.up ha3
          replace hY := hY.up ha3
          have hp : Blk _ w3.heap.size 30 #[.bool false, .slice none 0 0] := blk_new (w := w3) rfl
          generalize ep : w3.heap.size = p' at hp hp_le ⊢
          refine wpAnyU_allocB (i := 5) (d := some 20) rfl rfl (by kernel_rfl) (by rfl) rfl hSu.out (fun w4 hw4 => ?_)
          try simp only [Act.put, pu1, pu2, pu3]
          replace hU := hU.trans hw4
          replace hX := hX.up hw4
          replace hY := hY.up hw4
          replace hp := hp.up hw4
          have ha4 := Up.alloc w4 (.cells #[.bool false, .slice none 0 0] 30)
          have hq_le : wS.heap.size ≤ w4.heap.size := hU.size
          have hne := hp.lt
          replace hU := hU.trans ha4
          replace hX := hX.up ha4
          replace hY := hY.up ha4
          replace hp := hp.up ha4
          have hq : Blk _ w4.heap.size 30 #[.bool false, .slice none 0 0] := blk_new (w := w4) rfl
          generalize eq : w4.heap.size = q' at hq hq_le hne ⊢
          refine wpAnyU_one (i := 6) rfl (by kernel_rfl) (by rfl) fun s1 hs1 => ?_
          have k1 := hp.up hs1
          refine wp_stB rfl rfl rfl rfl k1 rfl rfl (one2 _ _ _ _) ?_
          refine ⟨fun h => by simp at h, ?_⟩
          try simp only [Act.put, pu1]
          refine wpAnyU_one (i := 7) rfl (by kernel_rfl) (by rfl) fun s2 hs2 => ?_
          have k2 := ((hq.up hs1).row_other _ (show q' ≠ p' by omega)).up hs2
          refine wp_stB rfl rfl rfl rfl k2 rfl rfl (one2 _ _ _ _) ?_
          refine ⟨fun h => by simp at h, ?_⟩
          try simp only [Act.put, pu1]
          refine wpAnyU_done (by kernel_rfl) (fun wF huE => ?_) _
          have hR := sums4 hSS hU hs1 k1 hs2 k2 huE hX hY hp_le hq_le (by omega)
          go_wp2_with fail
          go_meet
          case rel => exact hR
        · try simp only [Act.put, pu1, pu2, pu3]
          replace hU := hU.trans hw3
          replace hX := hX.up hw3
          replace hY := hY.up hw3
          have ha3 := Up.alloc w3 (.cells #[.bool false, .slice none 0 0] 30)
          have hq_le : wS.heap.size ≤ w3.heap.size := hU.size
          replace hU := hU.trans ha3
          replace hX := hX.up ha3
          replace hY := hY.up ha3
          have hq : Blk _ w3.heap.size 30 #[.bool false, .slice none 0 0] := blk_new (w := w3) rfl
          generalize eq : w3.heap.size = q' at hq hq_le ⊢
          refine wpAnyU_allocB (i := 4) (d := some 19) rfl rfl (by kernel_rfl) (by rfl) rfl hSu.out (fun w6 hw6 => ?_)
          try simp only [Act.put, pu1, pu2, pu3]
          replace hU := hU.trans hw6
          replace hX := hX.up hw6
          replace hY := hY.up hw6
          replace hq := hq.up hw6
          have ha6 := Up.alloc w6 (.cells #[.bool false, .slice none 0 0] 30)
          have hp_le : wS.heap.size ≤ w6.heap.size := hU.size
          have hne := hq.lt
          replace hU := hU.trans ha6
          replace hX := hX.up ha6
          replace hY := hY.up ha6
          replace hq := hq.up ha6
          have hp : Blk _ w6.heap.size 30 #[.bool false, .slice none 0 0] := blk_new (w := w6) rfl
          generalize ep : w6.heap.size = p' at hp hp_le hne ⊢
          refine wpAnyU_one (i := 6) rfl (by kernel_rfl) (by rfl) fun s1 hs1 => ?_
          have k1 := hp.up hs1
          refine wp_stB rfl rfl rfl rfl k1 rfl rfl (one2 _ _ _ _) ?_
          refine ⟨fun h => by simp at h, ?_⟩
          try simp only [Act.put, pu1]
          refine wpAnyU_one (i := 7) rfl (by kernel_rfl) (by rfl) fun s2 hs2 => ?_
          have k2 := ((hq.up hs1).row_other _ (show q' ≠ p' by omega)).up hs2
          refine wp_stB rfl rfl rfl rfl k2 rfl rfl (one2 _ _ _ _) ?_
          refine ⟨fun h => by simp at h, ?_⟩
          try simp only [Act.put, pu1]
          refine wpAnyU_done (by kernel_rfl) (fun wF huE => ?_) _
          have hR := sums4 hSS hU hs1 k1 hs2 k2 huE hX hY hp_le hq_le (by omega)
          go_wp2_with fail
          go_meet
          case rel => exact hR
      · try simp only [Act.put, pu1, pu2, pu3]
        replace hU := hU.trans hw2
        replace hX := hX.up hw2
        have ha2 := Up.alloc w2 (.cells #[.bool false, .slice none 0 0] 30)
        have hp_le : wS.heap.size ≤ w2.heap.size := hU.size
        replace hU := hU.trans ha2
        replace hX := hX.up ha2
        have hp : Blk _ w2.heap.size 30 #[.bool false, .slice none 0 0] := blk_new (w := w2) rfl
        generalize ep : w2.heap.size = p' at hp hp_le ⊢
        refine wpAnyU_ca1 (i := 3) (j := 5) (d := some 50) (dj := some 20) (by kernel_rfl) rfl rfl (by rfl) rfl rfl (by rfl) rfl hSu.out (fun w' => by go_simp) (fun w' hw' => HFb.out _) (fun v8 w8 hw8 hr8 => ?_) (fun w8 hw8 => ?_)
        · try simp only [Act.put, pu1, pu2, pu3]
          replace hU := hU.trans hw8
          replace hX := hX.up hw8
          replace hp := hp.up hw8
          obtain ⟨b8, a8, n8, c8, rfl⟩ := hr8.shape
          have hY := hr8
          refine wpAnyU_allocB (i := 5) (d := some 20) rfl rfl (by kernel_rfl) (by rfl) rfl hSu.out (fun w9 hw9 => ?_)
          try simp only [Act.put, pu1, pu2, pu3]
          replace hU := hU.trans hw9
          replace hX := hX.up hw9
          replace hY := hY.up hw9
          replace hp := hp.up hw9
          have ha9 := Up.alloc w9 (.cells #[.bool false, .slice none 0 0] 30)
          have hq_le : wS.heap.size ≤ w9.heap.size := hU.size
          have hne := hp.lt
          replace hU := hU.trans ha9
          replace hX := hX.up ha9
          replace hY := hY.up ha9
          replace hp := hp.up ha9
          have hq : Blk _ w9.heap.size 30 #[.bool false, .slice none 0 0] := blk_new (w := w9) rfl
          generalize eq : w9.heap.size = q' at hq hq_le hne ⊢
          refine wpAnyU_one (i := 6) rfl (by kernel_rfl) (by rfl) fun s1 hs1 => ?_
          have k1 := hp.up hs1
          refine wp_stB rfl rfl rfl rfl k1 rfl rfl (one2 _ _ _ _) ?_
          refine ⟨fun h => by simp at h, ?_⟩
          try simp only [Act.put, pu1]
          refine wpAnyU_one (i := 7) rfl (by kernel_rfl) (by rfl) fun s2 hs2 => ?_
          have k2 := ((hq.up hs1).row_other _ (show q' ≠ p' by omega)).up hs2
          refine wp_stB rfl rfl rfl rfl k2 rfl rfl (one2 _ _ _ _) ?_
          refine ⟨fun h => by simp at h, ?_⟩
          try simp only [Act.put, pu1]
          refine wpAnyU_done (by kernel_rfl) (fun wF huE => ?_) _
          have hR := sums4 hSS hU hs1 k1 hs2 k2 huE hX hY hp_le hq_le (by omega)
          go_wp2_with fail
          go_meet
          case rel => exact hR
        · try simp only [Act.put, pu1, pu2, pu3]
          replace hU := hU.trans hw8
          replace hX := hX.up hw8
          replace hp := hp.up hw8
          have ha8 := Up.alloc w8 (.cells #[.bool false, .slice none 0 0] 30)
          have hq_le : wS.heap.size ≤ w8.heap.size := hU.size
          have hne := hp.lt
          replace hU := hU.trans ha8
          replace hX := hX.up ha8
          replace hp := hp.up ha8
          have hq : Blk _ w8.heap.size 30 #[.bool false, .slice none 0 0] := blk_new (w := w8) rfl
          generalize eq : w8.heap.size = q' at hq hq_le hne ⊢
          refine wpAnyU_callE (i := 3) (d := some 50) rfl rfl (by kernel_rfl) (by rfl) hSu.out (fun w' => by go_simp) (fun w' hw' => HFb.out _) (fun v11 w11 hw11 hr11 => ?_)
          try simp only [Act.put, pu1, pu2, pu3]
          replace hU := hU.trans hw11
          replace hX := hX.up hw11
          replace hp := hp.up hw11
          replace hq := hq.up hw11
          obtain ⟨b11, a11, n11, c11, rfl⟩ := hr11.shape
          have hY := hr11
          refine wpAnyU_one (i := 6) rfl (by kernel_rfl) (by rfl) fun s1 hs1 => ?_
          have k1 := hp.up hs1
          refine wp_stB rfl rfl rfl rfl k1 rfl rfl (one2 _ _ _ _) ?_
          refine ⟨fun h => by simp at h, ?_⟩
          try simp only [Act.put, pu1]
          refine wpAnyU_one (i := 7) rfl (by kernel_rfl) (by rfl) fun s2 hs2 => ?_
          have k2 := ((hq.up hs1).row_other _ (show q' ≠ p' by omega)).up hs2
          refine wp_stB rfl rfl rfl rfl k2 rfl rfl (one2 _ _ _ _) ?_
          refine ⟨fun h => by simp at h, ?_⟩
          try simp only [Act.put, pu1]
          refine wpAnyU_done (by kernel_rfl) (fun wF huE => ?_) _
          have hR := sums4 hSS hU hs1 k1 hs2 k2 huE hX hY hp_le hq_le (by omega)
          go_wp2_with fail
          go_meet
          case rel => exact hR
      · try simp only [Act.put, pu1, pu2, pu3]
        replace hU := hU.trans hw2
        replace hX := hX.up hw2
        have ha2 := Up.alloc w2 (.cells #[.bool false, .slice none 0 0] 30)
        have hq_le : wS.heap.size ≤ w2.heap.size := hU.size
        replace hU := hU.trans ha2
        replace hX := hX.up ha2
        have hq : Blk _ w2.heap.size 30 #[.bool false, .slice none 0 0] := blk_new (w := w2) rfl
        generalize eq : w2.heap.size = q' at hq hq_le ⊢
        refine wpAnyU_ca1 (i := 3) (j := 4) (d := some 50) (dj := some 19) (by kernel_rfl) rfl rfl (by rfl) rfl rfl (by rfl) rfl hSu.out (fun w' => by go_simp) (fun w' hw' => HFb.out _) (fun v13 w13 hw13 hr13 => ?_) (fun w13 hw13 => ?_)
        · try simp only [Act.put, pu1, pu2, pu3]
          replace hU := hU.trans hw13
          replace hX := hX.up hw13
          replace hq := hq.up hw13
          obtain ⟨b13, a13, n13, c13, rfl⟩ := hr13.shape
          have hY := hr13
          refine wpAnyU_allocB (i := 4) (d := some 19) rfl rfl (by kernel_rfl) (by rfl) rfl hSu.out (fun w14 hw14 => ?_)
          try simp only [Act.put, pu1, pu2, pu3]
          replace hU := hU.trans hw14
          replace hX := hX.up hw14
          replace hY := hY.up hw14
          replace hq := hq.up hw14
          have ha14 := Up.alloc w14 (.cells #[.bool false, .slice none 0 0] 30)
          have hp_le : wS.heap.size ≤ w14.heap.size := hU.size
          have hne := hq.lt
          replace hU := hU.trans ha14
          replace hX := hX.up ha14
          replace hY := hY.up ha14
          replace hq := hq.up ha14
          have hp : Blk _ w14.heap.size 30 #[.bool false, .slice none 0 0] := blk_new (w := w14) rfl
          generalize ep : w14.heap.size = p' at hp hp_le hne ⊢
          refine wpAnyU_one (i := 6) rfl (by kernel_rfl) (by rfl) fun s1 hs1 => ?_
          have k1 := hp.up hs1
          refine wp_stB rfl rfl rfl rfl k1 rfl rfl (one2 _ _ _ _) ?_
          refine ⟨fun h => by simp at h, ?_⟩
          try simp only [Act.put, pu1]
          refine wpAnyU_one (i := 7) rfl (by kernel_rfl) (by rfl) fun s2 hs2 => ?_
          have k2 := ((hq.up hs1).row_other _ (show q' ≠ p' by omega)).up hs2
          refine wp_stB rfl rfl rfl rfl k2 rfl rfl (one2 _ _ _ _) ?_
          refine ⟨fun h => by simp at h, ?_⟩
          try simp only [Act.put, pu1]
          refine wpAnyU_done (by kernel_rfl) (fun wF huE => ?_) _
          have hR := sums4 hSS hU hs1 k1 hs2 k2 huE hX hY hp_le hq_le (by omega)
          go_wp2_with fail
          go_meet
          case rel => exact hR
        · try simp only [Act.put, pu1, pu2, pu3]
          replace hU := hU.trans hw13
          replace hX := hX.up hw13
          replace hq := hq.up hw13
          have ha13 := Up.alloc w13 (.cells #[.bool false, .slice none 0 0] 30)
          have hp_le : wS.heap.size ≤ w13.heap.size := hU.size
          have hne := hq.lt
          replace hU := hU.trans ha13
          replace hX := hX.up ha13
          replace hq := hq.up ha13
          have hp : Blk _ w13.heap.size 30 #[.bool false, .slice none 0 0] := blk_new (w := w13) rfl
          generalize ep : w13.heap.size = p' at hp hp_le hne ⊢
          refine wpAnyU_callE (i := 3) (d := some 50) rfl rfl (by kernel_rfl) (by rfl) hSu.out (fun w' => by go_simp) (fun w' hw' => HFb.out _) (fun v16 w16 hw16 hr16 => ?_)
          try simp only [Act.put, pu1, pu2, pu3]
          replace hU := hU.trans hw16
          replace hX := hX.up hw16
          replace hp := hp.up hw16
          replace hq := hq.up hw16
          obtain ⟨b16, a16, n16, c16, rfl⟩ := hr16.shape
          have hY := hr16
          refine wpAnyU_one (i := 6) rfl (by kernel_rfl) (by rfl) fun s1 hs1 => ?_
          have k1 := hp.up hs1
          refine wp_stB rfl rfl rfl rfl k1 rfl rfl (one2 _ _ _ _) ?_
          refine ⟨fun h => by simp at h, ?_⟩
          try simp only [Act.put, pu1]
          refine wpAnyU_one (i := 7) rfl (by kernel_rfl) (by rfl) fun s2 hs2 => ?_
          have k2 := ((hq.up hs1).row_other _ (show q' ≠ p' by omega)).up hs2
          refine wp_stB rfl rfl rfl rfl k2 rfl rfl (one2 _ _ _ _) ?_
          refine ⟨fun h => by simp at h, ?_⟩
          try simp only [Act.put, pu1]
          refine wpAnyU_done (by kernel_rfl) (fun wF huE => ?_) _
          have hR := sums4 hSS hU hs1 k1 hs2 k2 huE hX hY hp_le hq_le (by omega)
          go_wp2_with fail
          go_meet
          case rel => exact hR
    · try simp only [Act.put, pu1, pu2, pu3]
      replace hU := hU.trans hw1
      have ha1 := Up.alloc w1 (.cells #[.bool false, .slice none 0 0] 30)
      have hp_le : wS.heap.size ≤ w1.heap.size := hU.size
      replace hU := hU.trans ha1
      have hp : Blk _ w1.heap.size 30 #[.bool false, .slice none 0 0] := blk_new (w := w1) rfl
      generalize ep : w1.heap.size = p' at hp hp_le ⊢
      refine wpAnyU_ca1 (i := 1) (j := 5) (d := some 48) (dj := some 20) (by kernel_rfl) rfl rfl (by rfl) rfl rfl (by rfl) rfl hSu.out (fun w' => by go_simp) (fun w' hw' => HFa.out _) (fun v18 w18 hw18 hr18 => ?_) (fun w18 hw18 => ?_)
      · try simp only [Act.put, pu1, pu2, pu3]
        replace hU := hU.trans hw18
        replace hp := hp.up hw18
        obtain ⟨b18, a18, n18, c18, rfl⟩ := hr18.shape
        have hX := hr18
        refine wpAnyU_ca1 (i := 3) (j := 5) (d := some 50) (dj := some 20) (by kernel_rfl) rfl rfl (by rfl) rfl rfl (by rfl) rfl hSu.out (fun w' => by go_simp) (fun w' hw' => HFb.out _) (fun v19 w19 hw19 hr19 => ?_) (fun w19 hw19 => ?_)
        · try simp only [Act.put, pu1, pu2, pu3]
          replace hU := hU.trans hw19
          replace hX := hX.up hw19
          replace hp := hp.up hw19
          obtain ⟨b19, a19, n19, c19, rfl⟩ := hr19.shape
          have hY := hr19
          refine wpAnyU_allocB (i := 5) (d := some 20) rfl rfl (by kernel_rfl) (by rfl) rfl hSu.out (fun w20 hw20 => ?_)
          try simp only [Act.put, pu1, pu2, pu3]
          replace hU := hU.trans hw20
          replace hX := hX.up hw20
          replace hY := hY.up hw20
          replace hp := hp.up hw20
          have ha20 := Up.alloc w20 (.cells #[.bool false, .slice none 0 0] 30)
          have hq_le : wS.heap.size ≤ w20.heap.size := hU.size
          have hne := hp.lt
          replace hU := hU.trans ha20
          replace hX := hX.up ha20
          replace hY := hY.up ha20
          replace hp := hp.up ha20
          have hq : Blk _ w20.heap.size 30 #[.bool false, .slice none 0 0] := blk_new (w := w20) rfl
          generalize eq : w20.heap.size = q' at hq hq_le hne ⊢
          refine wpAnyU_one (i := 6) rfl (by kernel_rfl) (by rfl) fun s1 hs1 => ?_
          have k1 := hp.up hs1
          refine wp_stB rfl rfl rfl rfl k1 rfl rfl (one2 _ _ _ _) ?_
          refine ⟨fun h => by simp at h, ?_⟩
          try simp only [Act.put, pu1]
          refine wpAnyU_one (i := 7) rfl (by kernel_rfl) (by rfl) fun s2 hs2 => ?_
          have k2 := ((hq.up hs1).row_other _ (show q' ≠ p' by omega)).up hs2
          refine wp_stB rfl rfl rfl rfl k2 rfl rfl (one2 _ _ _ _) ?_
          refine ⟨fun h => by simp at h, ?_⟩
          try simp only [Act.put, pu1]
          refine wpAnyU_done (by kernel_rfl) (fun wF huE => ?_) _
          have hR := sums4 hSS hU hs1 k1 hs2 k2 huE hX hY hp_le hq_le (by omega)
          go_wp2_with fail
          go_meet
          case rel => exact hR
        · try simp only [Act.put, pu1, pu2, pu3]
          replace hU := hU.trans hw19
          replace hX := hX.up hw19
          replace hp := hp.up hw19
          have ha19 := Up.alloc w19 (.cells #[.bool false, .slice none 0 0] 30)
          have hq_le : wS.heap.size ≤ w19.heap.size := hU.size
          have hne := hp.lt
          replace hU := hU.trans ha19
          replace hX := hX.up ha19
          replace hp := hp.up ha19
          have hq : Blk _ w19.heap.size 30 #[.bool false, .slice none 0 0] := blk_new (w := w19) rfl
          generalize eq : w19.heap.size = q' at hq hq_le hne ⊢
          refine wpAnyU_callE (i := 3) (d := some 50) rfl rfl (by kernel_rfl) (by rfl) hSu.out (fun w' => by go_simp) (fun w' hw' => HFb.out _) (fun v22 w22 hw22 hr22 => ?_)
          try simp only [Act.put, pu1, pu2, pu3]
          replace hU := hU.trans hw22
          replace hX := hX.up hw22
          replace hp := hp.up hw22
          replace hq := hq.up hw22
          obtain ⟨b22, a22, n22, c22, rfl⟩ := hr22.shape
          have hY := hr22
          refine wpAnyU_one (i := 6) rfl (by kernel_rfl) (by rfl) fun s1 hs1 => ?_
          have k1 := hp.up hs1
          refine wp_stB rfl rfl rfl rfl k1 rfl rfl (one2 _ _ _ _) ?_
          refine ⟨fun h => by simp at h, ?_⟩
          try simp only [Act.put, pu1]
          refine wpAnyU_one (i := 7) rfl (by kernel_rfl) (by rfl) fun s2 hs2 => ?_
          have k2 := ((hq.up hs1).row_other _ (show q' ≠ p' by omega)).up hs2
          refine wp_stB rfl rfl rfl rfl k2 rfl rfl (one2 _ _ _ _) ?_
          refine ⟨fun h => by simp at h, ?_⟩
          try simp only [Act.put, pu1]
          refine wpAnyU_done (by kernel_rfl) (fun wF huE => ?_) _
          have hR := sums4 hSS hU hs1 k1 hs2 k2 huE hX hY hp_le hq_le (by omega)
          go_wp2_with fail
          go_meet
          case rel => exact hR
      · try simp only [Act.put, pu1, pu2, pu3]
        replace hU := hU.trans hw18
        replace hp := hp.up hw18
        have ha18 := Up.alloc w18 (.cells #[.bool false, .slice none 0 0] 30)
        have hq_le : wS.heap.size ≤ w18.heap.size := hU.size
        have hne := hp.lt
        replace hU := hU.trans ha18
        replace hp := hp.up ha18
        have hq : Blk _ w18.heap.size 30 #[.bool false, .slice none 0 0] := blk_new (w := w18) rfl
        generalize eq : w18.heap.size = q' at hq hq_le hne ⊢
        refine wpAnyU_callE (i := 1) (d := some 48) rfl rfl (by kernel_rfl) (by rfl) hSu.out (fun w' => by go_simp) (fun w' hw' => HFa.out _) (fun v24 w24 hw24 hr24 => ?_)
        try simp only [Act.put, pu1, pu2, pu3]
        replace hU := hU.trans hw24
        replace hp := hp.up hw24
        replace hq := hq.up hw24
        obtain ⟨b24, a24, n24, c24, rfl⟩ := hr24.shape
        have hX := hr24
        refine wpAnyU_callE (i := 3) (d := some 50) rfl rfl (by kernel_rfl) (by rfl) hSu.out (fun w' => by go_simp) (fun w' hw' => HFb.out _) (fun v25 w25 hw25 hr25 => ?_)
        try simp only [Act.put, pu1, pu2, pu3]
        replace hU := hU.trans hw25
        replace hX := hX.up hw25
        replace hp := hp.up hw25
        replace hq := hq.up hw25
        obtain ⟨b25, a25, n25, c25, rfl⟩ := hr25.shape
        have hY := hr25
        refine wpAnyU_one (i := 6) rfl (by kernel_rfl) (by rfl) fun s1 hs1 => ?_
        have k1 := hp.up hs1
        refine wp_stB rfl rfl rfl rfl k1 rfl rfl (one2 _ _ _ _) ?_
        refine ⟨fun h => by simp at h, ?_⟩
        try simp only [Act.put, pu1]
        refine wpAnyU_one (i := 7) rfl (by kernel_rfl) (by rfl) fun s2 hs2 => ?_
        have k2 := ((hq.up hs1).row_other _ (show q' ≠ p' by omega)).up hs2
        refine wp_stB rfl rfl rfl rfl k2 rfl rfl (one2 _ _ _ _) ?_
        refine ⟨fun h => by simp at h, ?_⟩
        try simp only [Act.put, pu1]
        refine wpAnyU_done (by kernel_rfl) (fun wF huE => ?_) _
        have hR := sums4 hSS hU hs1 k1 hs2 k2 huE hX hY hp_le hq_le (by omega)
        go_wp2_with fail
        go_meet
        case rel => exact hR
    · try simp only [Act.put, pu1, pu2, pu3]
      replace hU := hU.trans hw1
      have ha1 := Up.alloc w1 (.cells #[.bool false, .slice none 0 0] 30)
      have hq_le : wS.heap.size ≤ w1.heap.size := hU.size
      replace hU := hU.trans ha1
      have hq : Blk _ w1.heap.size 30 #[.bool false, .slice none 0 0] := blk_new (w := w1) rfl
      generalize eq : w1.heap.size = q' at hq hq_le ⊢
      refine wpAnyU_ca1 (i := 1) (j := 4) (d := some 48) (dj := some 19) (by kernel_rfl) rfl rfl (by rfl) rfl rfl (by rfl) rfl hSu.out (fun w' => by go_simp) (fun w' hw' => HFa.out _) (fun v27 w27 hw27 hr27 => ?_) (fun w27 hw27 => ?_)
      · try simp only [Act.put, pu1, pu2, pu3]
        replace hU := hU.trans hw27
        replace hq := hq.up hw27
        obtain ⟨b27, a27, n27, c27, rfl⟩ := hr27.shape
        have hX := hr27
        refine wpAnyU_ca1 (i := 3) (j := 4) (d := some 50) (dj := some 19) (by kernel_rfl) rfl rfl (by rfl) rfl rfl (by rfl) rfl hSu.out (fun w' => by go_simp) (fun w' hw' => HFb.out _) (fun v28 w28 hw28 hr28 => ?_) (fun w28 hw28 => ?_)
        · try simp only [Act.put, pu1, pu2, pu3]
          replace hU := hU.trans hw28
          replace hX := hX.up hw28
          replace hq := hq.up hw28
          obtain ⟨b28, a28, n28, c28, rfl⟩ := hr28.shape
          have hY := hr28
          refine wpAnyU_allocB (i := 4) (d := some 19) rfl rfl (by kernel_rfl) (by rfl) rfl hSu.out (fun w29 hw29 => ?_)
          try simp only [Act.put, pu1, pu2, pu3]
          replace hU := hU.trans hw29
          replace hX := hX.up hw29
          replace hY := hY.up hw29
          replace hq := hq.up hw29
          have ha29 := Up.alloc w29 (.cells #[.bool false, .slice none 0 0] 30)
          have hp_le : wS.heap.size ≤ w29.heap.size := hU.size
          have hne := hq.lt
          replace hU := hU.trans ha29
          replace hX := hX.up ha29
          replace hY := hY.up ha29
          replace hq := hq.up ha29
          have hp : Blk _ w29.heap.size 30 #[.bool false, .slice none 0 0] := blk_new (w := w29) rfl
          generalize ep : w29.heap.size = p' at hp hp_le hne ⊢
          refine wpAnyU_one (i := 6) rfl (by kernel_rfl) (by rfl) fun s1 hs1 => ?_
          have k1 := hp.up hs1
          refine wp_stB rfl rfl rfl rfl k1 rfl rfl (one2 _ _ _ _) ?_
          refine ⟨fun h => by simp at h, ?_⟩
          try simp only [Act.put, pu1]
          refine wpAnyU_one (i := 7) rfl (by kernel_rfl) (by rfl) fun s2 hs2 => ?_
          have k2 := ((hq.up hs1).row_other _ (show q' ≠ p' by omega)).up hs2
          refine wp_stB rfl rfl rfl rfl k2 rfl rfl (one2 _ _ _ _) ?_
          refine ⟨fun h => by simp at h, ?_⟩
          try simp only [Act.put, pu1]
          refine wpAnyU_done (by kernel_rfl) (fun wF huE => ?_) _
          have hR := sums4 hSS hU hs1 k1 hs2 k2 huE hX hY hp_le hq_le (by omega)
          go_wp2_with fail
          go_meet
          case rel => exact hR
        · try simp only [Act.put, pu1, pu2, pu3]
          replace hU := hU.trans hw28
          replace hX := hX.up hw28
          replace hq := hq.up hw28
          have ha28 := Up.alloc w28 (.cells #[.bool false, .slice none 0 0] 30)
          have hp_le : wS.heap.size ≤ w28.heap.size := hU.size
          have hne := hq.lt
          replace hU := hU.trans ha28
          replace hX := hX.up ha28
          replace hq := hq.up ha28
          have hp : Blk _ w28.heap.size 30 #[.bool false, .slice none 0 0] := blk_new (w := w28) rfl
          generalize ep : w28.heap.size = p' at hp hp_le hne ⊢
          refine wpAnyU_callE (i := 3) (d := some 50) rfl rfl (by kernel_rfl) (by rfl) hSu.out (fun w' => by go_simp) (fun w' hw' => HFb.out _) (fun v31 w31 hw31 hr31 => ?_)
          try simp only [Act.put, pu1, pu2, pu3]
          replace hU := hU.trans hw31
          replace hX := hX.up hw31
          replace hp := hp.up hw31
          replace hq := hq.up hw31
          obtain ⟨b31, a31, n31, c31, rfl⟩ := hr31.shape
          have hY := hr31
          refine wpAnyU_one (i := 6) rfl (by kernel_rfl) (by rfl) fun s1 hs1 => ?_
          have k1 := hp.up hs1
          refine wp_stB rfl rfl rfl rfl k1 rfl rfl (one2 _ _ _ _) ?_
          refine ⟨fun h => by simp at h, ?_⟩
          try simp only [Act.put, pu1]
          refine wpAnyU_one (i := 7) rfl (by kernel_rfl) (by rfl) fun s2 hs2 => ?_
          have k2 := ((hq.up hs1).row_other _ (show q' ≠ p' by omega)).up hs2
          refine wp_stB rfl rfl rfl rfl k2 rfl rfl (one2 _ _ _ _) ?_
          refine ⟨fun h => by simp at h, ?_⟩
          try simp only [Act.put, pu1]
          refine wpAnyU_done (by kernel_rfl) (fun wF huE => ?_) _
          have hR := sums4 hSS hU hs1 k1 hs2 k2 huE hX hY hp_le hq_le (by omega)
          go_wp2_with fail
          go_meet
          case rel => exact hR
      · try simp only [Act.put, pu1, pu2, pu3]
        replace hU := hU.trans hw27
        replace hq := hq.up hw27
        have ha27 := Up.alloc w27 (.cells #[.bool false, .slice none 0 0] 30)
        have hp_le : wS.heap.size ≤ w27.heap.size := hU.size
        have hne := hq.lt
        replace hU := hU.trans ha27
        replace hq := hq.up ha27
        have hp : Blk _ w27.heap.size 30 #[.bool false, .slice none 0 0] := blk_new (w := w27) rfl
        generalize ep : w27.heap.size = p' at hp hp_le hne ⊢
        refine wpAnyU_callE (i := 1) (d := some 48) rfl rfl (by kernel_rfl) (by rfl) hSu.out (fun w' => by go_simp) (fun w' hw' => HFa.out _) (fun v33 w33 hw33 hr33 => ?_)
        try simp only [Act.put, pu1, pu2, pu3]
        replace hU := hU.trans hw33
        replace hp := hp.up hw33
        replace hq := hq.up hw33
        obtain ⟨b33, a33, n33, c33, rfl⟩ := hr33.shape
        have hX := hr33
        refine wpAnyU_callE (i := 3) (d := some 50) rfl rfl (by kernel_rfl) (by rfl) hSu.out (fun w' => by go_simp) (fun w' hw' => HFb.out _) (fun v34 w34 hw34 hr34 => ?_)
        try simp only [Act.put, pu1, pu2, pu3]
        replace hU := hU.trans hw34
        replace hX := hX.up hw34
        replace hp := hp.up hw34
        replace hq := hq.up hw34
        obtain ⟨b34, a34, n34, c34, rfl⟩ := hr34.shape
        have hY := hr34
        refine wpAnyU_one (i := 6) rfl (by kernel_rfl) (by rfl) fun s1 hs1 => ?_
        have k1 := hp.up hs1
        refine wp_stB rfl rfl rfl rfl k1 rfl rfl (one2 _ _ _ _) ?_
        refine ⟨fun h => by simp at h, ?_⟩
        try simp only [Act.put, pu1]
        refine wpAnyU_one (i := 7) rfl (by kernel_rfl) (by rfl) fun s2 hs2 => ?_
        have k2 := ((hq.up hs1).row_other _ (show q' ≠ p' by omega)).up hs2
        refine wp_stB rfl rfl rfl rfl k2 rfl rfl (one2 _ _ _ _) ?_
        refine ⟨fun h => by simp at h, ?_⟩
        try simp only [Act.put, pu1]
        refine wpAnyU_done (by kernel_rfl) (fun wF huE => ?_) _
        have hR := sums4 hSS hU hs1 k1 hs2 k2 huE hX hY hp_le hq_le (by omega)
        go_wp2_with fail
        go_meet
        case rel => exact hR
  case rest =>
    clear rA rB rL
    obtain ⟨gX, gY, va, vb, rfl, rfl, ⟨b4, a4, n4, c4, rfl, dX⟩, ⟨b5, a5, n5, c5, rfl, dY⟩, hX, hY, rA, rB, rL⟩ := hcut
    have k1 := rA.lt
    have k2 := rB.lt
    go_upto_region 6 with (first | ((with_reducible apply ld_rowP undW infoW); exact rfl; exact rfl; focus (repeat (first | assumption | ((with_reducible apply row_newc); (focus (first | rfl | (simp; done)))) | ((with_reducible apply row_newz); (focus (first | rfl | (simp; done)))) | (with_reducible apply row_same) | ((with_reducible apply row_else); (focus (first | (simp; done) | (simp; omega) | omega))) | (with_reducible apply row_alloc) | (with_reducible apply row_drew) | (with_reducible apply row_drewN) | ((with_reducible apply row_up); assumption)))) | ((with_reducible apply st_rowP infoW); exact rfl; exact rfl; focus (repeat (first | assumption | ((with_reducible apply row_newc); (focus (first | rfl | (simp; done)))) | ((with_reducible apply row_newz); (focus (first | rfl | (simp; done)))) | (with_reducible apply row_same) | ((with_reducible apply row_else); (focus (first | (simp; done) | (simp; omega) | omega))) | (with_reducible apply row_alloc) | (with_reducible apply row_drew) | (with_reducible apply row_drewN) | ((with_reducible apply row_up); assumption)))) | ((with_reducible apply st_rowZ infoW); exact rfl; exact rfl; focus (repeat (first | assumption | ((with_reducible apply row_newc); (focus (first | rfl | (simp; done)))) | ((with_reducible apply row_newz); (focus (first | rfl | (simp; done)))) | (with_reducible apply row_same) | ((with_reducible apply row_else); (focus (first | (simp; done) | (simp; omega) | omega))) | (with_reducible apply row_alloc) | (with_reducible apply row_drew) | (with_reducible apply row_drewN) | ((with_reducible apply row_up); assumption)))) | (go_at_call 7; (with_reducible refine (HAd.out _).mono ?_); rintro e v0 ⟨rfl, hu⟩; have hs := hu.size))
    try simp only [Act.put]
    refine wp_world (fun wd => Row wd v0.heap.size 27 16 fq ∧ Row wd (v0.heap.size + 1) 27 16 fr ∧ Up wc wd) ⟨(by (repeat (first | assumption | ((with_reducible apply row_newc); (focus (first | rfl | (simp; done)))) | ((with_reducible apply row_newz); (focus (first | rfl | (simp; done)))) | (with_reducible apply row_same) | ((with_reducible apply row_else); (focus (first | (simp; done) | (simp; omega) | omega))) | (with_reducible apply row_alloc) | (with_reducible apply row_drew) | (with_reducible apply row_drewN) | ((with_reducible apply row_up); assumption)))), (by (repeat (first | assumption | ((with_reducible apply row_newc); (focus (first | rfl | (simp; done)))) | ((with_reducible apply row_newz); (focus (first | rfl | (simp; done)))) | (with_reducible apply row_same) | ((with_reducible apply row_else); (focus (first | (simp; done) | (simp; omega) | omega))) | (with_reducible apply row_alloc) | (with_reducible apply row_drew) | (with_reducible apply row_drewN) | ((with_reducible apply row_up); assumption)))), (by repeat (first | assumption | (with_reducible apply Up.of) | (with_reducible exact Below.refl _ _) | (with_reducible exact Up.refl _) | ((with_reducible apply bl_setRow); (focus (first | exact Nat.le_refl _ | (simp; done) | (simp; omega) | omega))) | (with_reducible apply below_drewN) | (with_reducible apply Below.drew) | ((with_reducible apply bl_alloc); (focus (first | exact Nat.le_refl _ | (simp; done) | (simp; omega) | omega))) | ((with_reducible apply bl_setCell); (focus (first | exact Nat.le_refl _ | (simp; done) | (simp; omega) | omega))) | ((with_reducible apply up_tr); assumption)))⟩ (fun x0 hD => ?_)
    obtain ⟨rQ, rR, hux⟩ := hD
    clear k1 k2 hu hs
    replace rA := rA.up hux
    replace rB := rB.up hux
    replace dX := dX.up hux
    replace dY := dY.up hux
    replace hX := hX.up hux
    replace hY := hY.up hux
    replace rL := below_up rL hux
    clear hux
    generalize v0.heap.size = gQ at *
    have k1 := rA.lt
    have k2 := rB.lt
    go_upto_region 7 with (first | ((with_reducible apply ld_rowP undW infoW); exact rfl; exact rfl; focus (repeat (first | assumption | ((with_reducible apply row_newc); (focus (first | rfl | (simp; done)))) | ((with_reducible apply row_newz); (focus (first | rfl | (simp; done)))) | (with_reducible apply row_same) | ((with_reducible apply row_else); (focus (first | (simp; done) | (simp; omega) | omega))) | (with_reducible apply row_alloc) | (with_reducible apply row_drew) | (with_reducible apply row_drewN) | ((with_reducible apply row_up); assumption)))) | ((with_reducible apply st_rowP infoW); exact rfl; exact rfl; focus (repeat (first | assumption | ((with_reducible apply row_newc); (focus (first | rfl | (simp; done)))) | ((with_reducible apply row_newz); (focus (first | rfl | (simp; done)))) | (with_reducible apply row_same) | ((with_reducible apply row_else); (focus (first | (simp; done) | (simp; omega) | omega))) | (with_reducible apply row_alloc) | (with_reducible apply row_drew) | (with_reducible apply row_drewN) | ((with_reducible apply row_up); assumption)))) | ((with_reducible apply st_rowZ infoW); exact rfl; exact rfl; focus (repeat (first | assumption | ((with_reducible apply row_newc); (focus (first | rfl | (simp; done)))) | ((with_reducible apply row_newz); (focus (first | rfl | (simp; done)))) | (with_reducible apply row_same) | ((with_reducible apply row_else); (focus (first | (simp; done) | (simp; omega) | omega))) | (with_reducible apply row_alloc) | (with_reducible apply row_drew) | (with_reducible apply row_drewN) | ((with_reducible apply row_up); assumption)))) | (go_at_call 8; (with_reducible refine (HAr.out _).mono ?_); rintro e v1 ⟨rfl, hu⟩; have hs := hu.size))
    try simp only [Act.put]
    refine wp_world (fun wd => Row wd v1.heap.size 27 16 fn ∧ Up x0 wd) ⟨(by (repeat (first | assumption | ((with_reducible apply row_newc); (focus (first | rfl | (simp; done)))) | ((with_reducible apply row_newz); (focus (first | rfl | (simp; done)))) | (with_reducible apply row_same) | ((with_reducible apply row_else); (focus (first | (simp; done) | (simp; omega) | omega))) | (with_reducible apply row_alloc) | (with_reducible apply row_drew) | (with_reducible apply row_drewN) | ((with_reducible apply row_up); assumption)))), (by repeat (first | assumption | (with_reducible apply Up.of) | (with_reducible exact Below.refl _ _) | (with_reducible exact Up.refl _) | ((with_reducible apply bl_setRow); (focus (first | exact Nat.le_refl _ | (simp; done) | (simp; omega) | omega))) | (with_reducible apply below_drewN) | (with_reducible apply Below.drew) | ((with_reducible apply bl_alloc); (focus (first | exact Nat.le_refl _ | (simp; done) | (simp; omega) | omega))) | ((with_reducible apply bl_setCell); (focus (first | exact Nat.le_refl _ | (simp; done) | (simp; omega) | omega))) | ((with_reducible apply up_tr); assumption)))⟩ (fun x1 hD => ?_)
    obtain ⟨rN, hux⟩ := hD
    clear k1 k2 hu hs rA rB
    replace dX := dX.up hux
    replace dY := dY.up hux
    replace hX := hX.up hux
    replace hY := hY.up hux
    replace rL := below_up rL hux
    replace rQ := rQ.up hux
    replace rR := rR.up hux
    clear hux
    generalize v1.heap.size = gN at *
    by_cases hy0 : y = 0
    · obtain ⟨rfl, rfl, rfl⟩ := Hq0.out hy0
      have hkn : kn = false := by
        cases kn with
        | false => rfl
        | true => have := (Hn1.out rfl).1; omega
      subst hkn
      obtain ⟨rfl, -⟩ := Hn0.out rfl
      have es : sgn y = 0 := by rw [hy0]; rfl
      have hSI := HSI.out
      rw [es] at hSI
      have HSI := hid hSI
      clear hSI es
      go_wp2_with (first | go_skip | ((with_reducible apply ld_rowP undW infoW); exact rfl; exact rfl; focus (repeat (first | assumption | ((with_reducible apply row_newc); (focus (first | rfl | (simp; done)))) | ((with_reducible apply row_newz); (focus (first | rfl | (simp; done)))) | (with_reducible apply row_same) | ((with_reducible apply row_else); (focus (first | (simp; done) | (simp; omega) | omega))) | (with_reducible apply row_alloc) | (with_reducible apply row_drew) | (with_reducible apply row_drewN) | ((with_reducible apply row_up); assumption)))) | ((with_reducible apply st_rowP infoW); exact rfl; exact rfl; focus (repeat (first | assumption | ((with_reducible apply row_newc); (focus (first | rfl | (simp; done)))) | ((with_reducible apply row_newz); (focus (first | rfl | (simp; done)))) | (with_reducible apply row_same) | ((with_reducible apply row_else); (focus (first | (simp; done) | (simp; omega) | omega))) | (with_reducible apply row_alloc) | (with_reducible apply row_drew) | (with_reducible apply row_drewN) | ((with_reducible apply row_up); assumption)))) | ((with_reducible apply st_rowZ infoW); exact rfl; exact rfl; focus (repeat (first | assumption | ((with_reducible apply row_newc); (focus (first | rfl | (simp; done)))) | ((with_reducible apply row_newz); (focus (first | rfl | (simp; done)))) | (with_reducible apply row_same) | ((with_reducible apply row_else); (focus (first | (simp; done) | (simp; omega) | omega))) | (with_reducible apply row_alloc) | (with_reducible apply row_drew) | (with_reducible apply row_drewN) | ((with_reducible apply row_up); assumption)))) | ((with_reducible apply ldB_P); exact rfl; exact rfl; (focus (repeat (first | assumption | ((with_reducible apply blk_new); (focus (first | rfl | (simp; done)))) | (with_reducible apply blk_alloc) | (with_reducible apply blk_drew) | (with_reducible apply blk_drewN) | ((with_reducible apply blk_up); assumption) | (with_reducible apply blk_same) | ((with_reducible apply blk_else); (focus (first | (simp; done) | (simp; omega) | omega)))))); exact rfl) | ((with_reducible apply eqSZP); exact rfl; exact rfl; exact rfl) | (go_at_call 9; (with_reducible refine (HSI.out _ _ (by (repeat (first | assumption | ((with_reducible apply big_set); (focus (repeat (first | assumption | ((with_reducible apply blk_new); (focus (first | rfl | (simp; done)))) | (with_reducible apply blk_alloc) | (with_reducible apply blk_drew) | (with_reducible apply blk_drewN) | ((with_reducible apply blk_up); assumption) | (with_reducible apply blk_same) | ((with_reducible apply blk_else); (focus (first | (simp; done) | (simp; omega) | omega))))))) | (with_reducible apply big_alloc) | ((with_reducible apply big_up); assumption))); done)).mono ?_); rintro e wS ⟨rfl, huS⟩; have hsS := huS.size))
      go_ret
      exact ⟨rfl, (by repeat (first | assumption | (with_reducible apply Up.of) | (with_reducible exact Below.refl _ _) | (with_reducible exact Up.refl _) | ((with_reducible apply bl_setRow); (focus (first | exact Nat.le_refl _ | (simp; done) | (simp; omega) | omega))) | (with_reducible apply below_drewN) | (with_reducible apply Below.drew) | ((with_reducible apply bl_alloc); (focus (first | exact Nat.le_refl _ | (simp; done) | (simp; omega) | omega))) | ((with_reducible apply bl_setCell); (focus (first | exact Nat.le_refl _ | (simp; done) | (simp; omega) | omega))) | ((with_reducible apply up_tr); assumption)))⟩
    · have hs0 : sgn y ≠ 0 := by unfold sgn; (repeat' split) <;> omega
      have d0 : (sgn y == 0) = false := by simpa using hs0
      obtain ⟨eq1, eq2, eq3⟩ := Hq1.out hy0
      have EQ1 := hid eq1
      have EQ2 := hid eq2
      have EQ3 := hid eq3
      have HD2 := hid (fun w a b (ha : Big w a x) (hb : Big w b y) => HDB.out w a b ha hb hy0)
      obtain ⟨sy, hsy⟩ : ∃ sy, sgn y = sy := ⟨_, rfl⟩
      have Hsy := hid hsy
      rw [hsy] at d0 hs0
      have hSI := HSI.out
      rw [hsy] at hSI
      have HSI := hid hSI
      clear hSI hsy hs0 eq1 eq2 eq3
      go_upto_region 10 with (first | go_skip | ((with_reducible apply ld_rowP undW infoW); exact rfl; exact rfl; focus (repeat (first | assumption | ((with_reducible apply row_newc); (focus (first | rfl | (simp; done)))) | ((with_reducible apply row_newz); (focus (first | rfl | (simp; done)))) | (with_reducible apply row_same) | ((with_reducible apply row_else); (focus (first | (simp; done) | (simp; omega) | omega))) | (with_reducible apply row_alloc) | (with_reducible apply row_drew) | (with_reducible apply row_drewN) | ((with_reducible apply row_up); assumption)))) | ((with_reducible apply st_rowP infoW); exact rfl; exact rfl; focus (repeat (first | assumption | ((with_reducible apply row_newc); (focus (first | rfl | (simp; done)))) | ((with_reducible apply row_newz); (focus (first | rfl | (simp; done)))) | (with_reducible apply row_same) | ((with_reducible apply row_else); (focus (first | (simp; done) | (simp; omega) | omega))) | (with_reducible apply row_alloc) | (with_reducible apply row_drew) | (with_reducible apply row_drewN) | ((with_reducible apply row_up); assumption)))) | ((with_reducible apply st_rowZ infoW); exact rfl; exact rfl; focus (repeat (first | assumption | ((with_reducible apply row_newc); (focus (first | rfl | (simp; done)))) | ((with_reducible apply row_newz); (focus (first | rfl | (simp; done)))) | (with_reducible apply row_same) | ((with_reducible apply row_else); (focus (first | (simp; done) | (simp; omega) | omega))) | (with_reducible apply row_alloc) | (with_reducible apply row_drew) | (with_reducible apply row_drewN) | ((with_reducible apply row_up); assumption)))) | ((with_reducible apply ldB_P); exact rfl; exact rfl; (focus (repeat (first | assumption | ((with_reducible apply blk_new); (focus (first | rfl | (simp; done)))) | (with_reducible apply blk_alloc) | (with_reducible apply blk_drew) | (with_reducible apply blk_drewN) | ((with_reducible apply blk_up); assumption) | (with_reducible apply blk_same) | ((with_reducible apply blk_else); (focus (first | (simp; done) | (simp; omega) | omega)))))); exact rfl) | ((with_reducible apply stB_P); exact rfl; exact rfl; (focus (repeat (first | assumption | ((with_reducible apply blk_new); (focus (first | rfl | (simp; done)))) | (with_reducible apply blk_alloc) | (with_reducible apply blk_drew) | (with_reducible apply blk_drewN) | ((with_reducible apply blk_up); assumption) | (with_reducible apply blk_same) | ((with_reducible apply blk_else); (focus (first | (simp; done) | (simp; omega) | omega)))))); exact rfl; exact rfl; exact one2 _ _ _ _) | (go_at_call 9; (with_reducible refine (HSI.out _ _ (by (repeat (first | assumption | ((with_reducible apply big_set); (focus (repeat (first | assumption | ((with_reducible apply blk_new); (focus (first | rfl | (simp; done)))) | (with_reducible apply blk_alloc) | (with_reducible apply blk_drew) | (with_reducible apply blk_drewN) | ((with_reducible apply blk_up); assumption) | (with_reducible apply blk_same) | ((with_reducible apply blk_else); (focus (first | (simp; done) | (simp; omega) | omega))))))) | (with_reducible apply big_alloc) | ((with_reducible apply big_up); assumption))); done)).mono ?_); rintro e wS ⟨rfl, huS⟩; have hsS := huS.size) | (go_at_call 10; (with_reducible refine (HD2.out _ _ _ (by (repeat (first | assumption | ((with_reducible apply big_set); (focus (repeat (first | assumption | ((with_reducible apply blk_new); (focus (first | rfl | (simp; done)))) | (with_reducible apply blk_alloc) | (with_reducible apply blk_drew) | (with_reducible apply blk_drewN) | ((with_reducible apply blk_up); assumption) | (with_reducible apply blk_same) | ((with_reducible apply blk_else); (focus (first | (simp; done) | (simp; omega) | omega))))))) | (with_reducible apply big_alloc) | ((with_reducible apply big_up); assumption))); done) (by (repeat (first | assumption | ((with_reducible apply big_set); (focus (repeat (first | assumption | ((with_reducible apply blk_new); (focus (first | rfl | (simp; done)))) | (with_reducible apply blk_alloc) | (with_reducible apply blk_drew) | (with_reducible apply blk_drewN) | ((with_reducible apply blk_up); assumption) | (with_reducible apply blk_same) | ((with_reducible apply blk_else); (focus (first | (simp; done) | (simp; omega) | omega))))))) | (with_reducible apply big_alloc) | ((with_reducible apply big_up); assumption))); done)).mono ?_); rintro e wD ⟨huD, vD, rfl, b6, a6, n6, c6, b7, a7, n7, c7, rfl, hDQ, hDR⟩; have hsD := huD.size))
      try simp only [Act.put]
      refine wp_world (fun wd => Blk wd wD.heap.size 30 #[.bool b6, .slice a6 n6 c6] ∧ Blk wd (wD.heap.size + 1) 30 #[.bool b7, .slice a7 n7 c7] ∧ Big wd (.agg #[.bool b6, .slice a6 n6 c6]) (x.tdiv y) ∧ Big wd (.agg #[.bool b7, .slice a7 n7 c7]) (x.tmod y) ∧ Up x1 wd) ⟨(by (repeat (first | assumption | ((with_reducible apply blk_new); (focus (first | rfl | (simp; done)))) | (with_reducible apply blk_alloc) | (with_reducible apply blk_drew) | (with_reducible apply blk_drewN) | ((with_reducible apply blk_up); assumption) | (with_reducible apply blk_same) | ((with_reducible apply blk_else); (focus (first | (simp; done) | (simp; omega) | omega)))))), (by (repeat (first | assumption | ((with_reducible apply blk_new); (focus (first | rfl | (simp; done)))) | (with_reducible apply blk_alloc) | (with_reducible apply blk_drew) | (with_reducible apply blk_drewN) | ((with_reducible apply blk_up); assumption) | (with_reducible apply blk_same) | ((with_reducible apply blk_else); (focus (first | (simp; done) | (simp; omega) | omega)))))), (by (repeat (first | assumption | ((with_reducible apply big_set); (focus (repeat (first | assumption | ((with_reducible apply blk_new); (focus (first | rfl | (simp; done)))) | (with_reducible apply blk_alloc) | (with_reducible apply blk_drew) | (with_reducible apply blk_drewN) | ((with_reducible apply blk_up); assumption) | (with_reducible apply blk_same) | ((with_reducible apply blk_else); (focus (first | (simp; done) | (simp; omega) | omega))))))) | (with_reducible apply big_alloc) | ((with_reducible apply big_up); assumption))); done), (by (repeat (first | assumption | ((with_reducible apply big_set); (focus (repeat (first | assumption | ((with_reducible apply blk_new); (focus (first | rfl | (simp; done)))) | (with_reducible apply blk_alloc) | (with_reducible apply blk_drew) | (with_reducible apply blk_drewN) | ((with_reducible apply blk_up); assumption) | (with_reducible apply blk_same) | ((with_reducible apply blk_else); (focus (first | (simp; done) | (simp; omega) | omega))))))) | (with_reducible apply big_alloc) | ((with_reducible apply big_up); assumption))); done), (by repeat (first | assumption | (with_reducible apply Up.of) | (with_reducible exact Below.refl _ _) | (with_reducible exact Up.refl _) | ((with_reducible apply bl_setRow); (focus (first | exact Nat.le_refl _ | (simp; done) | (simp; omega) | omega))) | (with_reducible apply below_drewN) | (with_reducible apply Below.drew) | ((with_reducible apply bl_alloc); (focus (first | exact Nat.le_refl _ | (simp; done) | (simp; omega) | omega))) | ((with_reducible apply bl_setCell); (focus (first | exact Nat.le_refl _ | (simp; done) | (simp; omega) | omega))) | ((with_reducible apply up_tr); assumption)))⟩ (fun x2 hD => ?_)
      obtain ⟨dQ, dR, hQ, hR, hux⟩ := hD
      clear huS hsS huD hsD hDQ hDR
      replace dX := dX.up hux
      replace dY := dY.up hux
      replace hX := hX.up hux
      replace hY := hY.up hux
      replace rL := below_up rL hux
      replace rQ := rQ.up hux
      replace rR := rR.up hux
      replace rN := rN.up hux
      clear hux
      generalize wD.heap.size = gD at *
      go_cut [116] (fun t116 wc => t116 = .bool false ∧ Up x2 wc)
      case first =>
        have HF := hid (fun w u (h : Big w u (x.tdiv y)) => fits_big h Hnq.out EQ1.out)
        have HW := hid (fun w u (h : Big w u (x.tmod y)) => help_wide (tmod_in (b := y) Hx.out) h Hnr.out)
        unfold wideV at HW
        cases kq with
        | true =>
          obtain rfl := EQ2.out rfl
          generalize enc (x.tmod y) = er at *
          go_wp2_with (first | go_skip | ((with_reducible apply ld_rowP undW infoW); exact rfl; exact rfl; focus (repeat (first | assumption | ((with_reducible apply row_newc); (focus (first | rfl | (simp; done)))) | ((with_reducible apply row_newz); (focus (first | rfl | (simp; done)))) | (with_reducible apply row_same) | ((with_reducible apply row_else); (focus (first | (simp; done) | (simp; omega) | omega))) | (with_reducible apply row_alloc) | (with_reducible apply row_drew) | (with_reducible apply row_drewN) | ((with_reducible apply row_up); assumption)))) | ((with_reducible apply ldB_P); exact rfl; exact rfl; (focus (repeat (first | assumption | ((with_reducible apply blk_new); (focus (first | rfl | (simp; done)))) | (with_reducible apply blk_alloc) | (with_reducible apply blk_drew) | (with_reducible apply blk_drewN) | ((with_reducible apply blk_up); assumption) | (with_reducible apply blk_same) | ((with_reducible apply blk_else); (focus (first | (simp; done) | (simp; omega) | omega)))))); exact rfl) | (go_at_call 11; (with_reducible refine (HF.out _ _ (by (repeat (first | assumption | ((with_reducible apply big_set); (focus (repeat (first | assumption | ((with_reducible apply blk_new); (focus (first | rfl | (simp; done)))) | (with_reducible apply blk_alloc) | (with_reducible apply blk_drew) | (with_reducible apply blk_drewN) | ((with_reducible apply blk_up); assumption) | (with_reducible apply blk_same) | ((with_reducible apply blk_else); (focus (first | (simp; done) | (simp; omega) | omega))))))) | (with_reducible apply big_alloc) | ((with_reducible apply big_up); assumption))); done)).mono ?_); rintro e wS ⟨rfl, huS⟩; have hsS := huS.size) | (go_at_call 12; (with_reducible refine (HW.out _ _ (by (repeat (first | assumption | ((with_reducible apply big_set); (focus (repeat (first | assumption | ((with_reducible apply blk_new); (focus (first | rfl | (simp; done)))) | (with_reducible apply blk_alloc) | (with_reducible apply blk_drew) | (with_reducible apply blk_drewN) | ((with_reducible apply blk_up); assumption) | (with_reducible apply blk_same) | ((with_reducible apply blk_else); (focus (first | (simp; done) | (simp; omega) | omega))))))) | (with_reducible apply big_alloc) | ((with_reducible apply big_up); assumption))); done)).mono ?_); rintro e wV ⟨rfl, huV⟩; have hsV := huV.size))
          go_meet
          case rel => exact ⟨rfl, (by repeat (first | assumption | (with_reducible apply Up.of) | (with_reducible exact Below.refl _ _) | (with_reducible exact Up.refl _) | ((with_reducible apply bl_setRow); (focus (first | exact Nat.le_refl _ | (simp; done) | (simp; omega) | omega))) | (with_reducible apply below_drewN) | (with_reducible apply Below.drew) | ((with_reducible apply bl_alloc); (focus (first | exact Nat.le_refl _ | (simp; done) | (simp; omega) | omega))) | ((with_reducible apply bl_setCell); (focus (first | exact Nat.le_refl _ | (simp; done) | (simp; omega) | omega))) | ((with_reducible apply up_tr); assumption)))⟩
        | false =>
          obtain rfl := EQ3.out rfl
          go_wp2_with (first | go_skip | ((with_reducible apply ld_rowP undW infoW); exact rfl; exact rfl; focus (repeat (first | assumption | ((with_reducible apply row_newc); (focus (first | rfl | (simp; done)))) | ((with_reducible apply row_newz); (focus (first | rfl | (simp; done)))) | (with_reducible apply row_same) | ((with_reducible apply row_else); (focus (first | (simp; done) | (simp; omega) | omega))) | (with_reducible apply row_alloc) | (with_reducible apply row_drew) | (with_reducible apply row_drewN) | ((with_reducible apply row_up); assumption)))) | ((with_reducible apply ldB_P); exact rfl; exact rfl; (focus (repeat (first | assumption | ((with_reducible apply blk_new); (focus (first | rfl | (simp; done)))) | (with_reducible apply blk_alloc) | (with_reducible apply blk_drew) | (with_reducible apply blk_drewN) | ((with_reducible apply blk_up); assumption) | (with_reducible apply blk_same) | ((with_reducible apply blk_else); (focus (first | (simp; done) | (simp; omega) | omega)))))); exact rfl) | ((with_reducible apply neSZP); exact rfl; exact rfl; exact rfl) | (go_at_call 11; (with_reducible refine (HF.out _ _ (by (repeat (first | assumption | ((with_reducible apply big_set); (focus (repeat (first | assumption | ((with_reducible apply blk_new); (focus (first | rfl | (simp; done)))) | (with_reducible apply blk_alloc) | (with_reducible apply blk_drew) | (with_reducible apply blk_drewN) | ((with_reducible apply blk_up); assumption) | (with_reducible apply blk_same) | ((with_reducible apply blk_else); (focus (first | (simp; done) | (simp; omega) | omega))))))) | (with_reducible apply big_alloc) | ((with_reducible apply big_up); assumption))); done)).mono ?_); rintro e wS ⟨rfl, huS⟩; have hsS := huS.size))
          go_meet
          case rel => exact ⟨rfl, (by repeat (first | assumption | (with_reducible apply Up.of) | (with_reducible exact Below.refl _ _) | (with_reducible exact Up.refl _) | ((with_reducible apply bl_setRow); (focus (first | exact Nat.le_refl _ | (simp; done) | (simp; omega) | omega))) | (with_reducible apply below_drewN) | (with_reducible apply Below.drew) | ((with_reducible apply bl_alloc); (focus (first | exact Nat.le_refl _ | (simp; done) | (simp; omega) | omega))) | ((with_reducible apply bl_setCell); (focus (first | exact Nat.le_refl _ | (simp; done) | (simp; omega) | omega))) | ((with_reducible apply up_tr); assumption)))⟩
      case rest =>
        obtain ⟨rfl, hux⟩ := hcut
        clear rQ rR dQ dR hQ hR EQ1 EQ2 EQ3 HD2 HDB Hq0 Hq1
        replace dX := dX.up hux
        replace dY := dY.up hux
        replace hX := hX.up hux
        replace hY := hY.up hux
        replace rL := below_up rL hux
        replace rN := rN.up hux
        clear hux
        have k1 := rN.lt
        have k2 : gX < _ := Blk.lt dX
        have k3 : gY < _ := Blk.lt dY
        have k4 := rL.size
        go_upto_region 13 with (first | ((with_reducible apply stB_P); exact rfl; exact rfl; (focus (repeat (first | assumption | ((with_reducible apply blk_new); (focus (first | rfl | (simp; done)))) | (with_reducible apply blk_alloc) | (with_reducible apply blk_drew) | (with_reducible apply blk_drewN) | ((with_reducible apply blk_up); assumption) | (with_reducible apply blk_same) | ((with_reducible apply blk_else); (focus (first | (simp; done) | (simp; omega) | omega)))))); exact rfl; exact rfl; exact one2 _ _ _ _) | (go_at_call 13; (with_reducible refine (HO2.out _).mono ?_); rintro e wO ⟨huO, u, rfl, hBO⟩; obtain ⟨qo, ao, no, co, rfl⟩ := hBO.shape; have hsO := huO.size))
        try simp only [Act.put]
        refine wp_world (fun wd => Five w gN wO.heap.size gX gY fn qo ao no co b4 a4 n4 c4 b5 a5 n5 c5 x y wd) ⟨(by (repeat (first | assumption | ((with_reducible apply row_newc); (focus (first | rfl | (simp; done)))) | ((with_reducible apply row_newz); (focus (first | rfl | (simp; done)))) | (with_reducible apply row_same) | ((with_reducible apply row_else); (focus (first | (simp; done) | (simp; omega) | omega))) | (with_reducible apply row_alloc) | (with_reducible apply row_drew) | (with_reducible apply row_drewN) | ((with_reducible apply row_up); assumption)))), (by (repeat (first | assumption | ((with_reducible apply blk_new); (focus (first | rfl | (simp; done)))) | (with_reducible apply blk_alloc) | (with_reducible apply blk_drew) | (with_reducible apply blk_drewN) | ((with_reducible apply blk_up); assumption) | (with_reducible apply blk_same) | ((with_reducible apply blk_else); (focus (first | (simp; done) | (simp; omega) | omega)))))), (by (repeat (first | assumption | ((with_reducible apply blk_new); (focus (first | rfl | (simp; done)))) | (with_reducible apply blk_alloc) | (with_reducible apply blk_drew) | (with_reducible apply blk_drewN) | ((with_reducible apply blk_up); assumption) | (with_reducible apply blk_same) | ((with_reducible apply blk_else); (focus (first | (simp; done) | (simp; omega) | omega)))))), (by (repeat (first | assumption | ((with_reducible apply blk_new); (focus (first | rfl | (simp; done)))) | (with_reducible apply blk_alloc) | (with_reducible apply blk_drew) | (with_reducible apply blk_drewN) | ((with_reducible apply blk_up); assumption) | (with_reducible apply blk_same) | ((with_reducible apply blk_else); (focus (first | (simp; done) | (simp; omega) | omega)))))), (by (repeat (first | assumption | ((with_reducible apply big_set); (focus (repeat (first | assumption | ((with_reducible apply blk_new); (focus (first | rfl | (simp; done)))) | (with_reducible apply blk_alloc) | (with_reducible apply blk_drew) | (with_reducible apply blk_drewN) | ((with_reducible apply blk_up); assumption) | (with_reducible apply blk_same) | ((with_reducible apply blk_else); (focus (first | (simp; done) | (simp; omega) | omega))))))) | (with_reducible apply big_alloc) | ((with_reducible apply big_up); assumption))); done), (by (repeat (first | assumption | ((with_reducible apply big_set); (focus (repeat (first | assumption | ((with_reducible apply blk_new); (focus (first | rfl | (simp; done)))) | (with_reducible apply blk_alloc) | (with_reducible apply blk_drew) | (with_reducible apply blk_drewN) | ((with_reducible apply blk_up); assumption) | (with_reducible apply blk_same) | ((with_reducible apply blk_else); (focus (first | (simp; done) | (simp; omega) | omega))))))) | (with_reducible apply big_alloc) | ((with_reducible apply big_up); assumption))); done), (by (repeat (first | assumption | ((with_reducible apply big_set); (focus (repeat (first | assumption | ((with_reducible apply blk_new); (focus (first | rfl | (simp; done)))) | (with_reducible apply blk_alloc) | (with_reducible apply blk_drew) | (with_reducible apply blk_drewN) | ((with_reducible apply blk_up); assumption) | (with_reducible apply blk_same) | ((with_reducible apply blk_else); (focus (first | (simp; done) | (simp; omega) | omega))))))) | (with_reducible apply big_alloc) | ((with_reducible apply big_up); assumption))); done), (by repeat (first | assumption | (with_reducible apply Up.of) | (with_reducible exact Below.refl _ _) | (with_reducible exact Up.refl _) | ((with_reducible apply bl_setRow); (focus (first | exact Nat.le_refl _ | (simp; done) | (simp; omega) | omega))) | (with_reducible apply below_drewN) | (with_reducible apply Below.drew) | ((with_reducible apply bl_alloc); (focus (first | exact Nat.le_refl _ | (simp; done) | (simp; omega) | omega))) | ((with_reducible apply bl_setCell); (focus (first | exact Nat.le_refl _ | (simp; done) | (simp; omega) | omega))) | ((with_reducible apply up_tr); assumption)))⟩ (fun x3 hD => ?_)
        clear huO hBO dX dY hX hY rL rN k1 k2 k3 k4 hsO
        generalize wO.heap.size = gT at *
        obtain ⟨rN, dT, dX, dY, hT, hX, hY, rL⟩ := hD
        have k1 := rL.size
        go_upto_region 14 with (first | ((with_reducible apply ldB_P); exact rfl; exact rfl; (focus (repeat (first | assumption | ((with_reducible apply blk_new); (focus (first | rfl | (simp; done)))) | (with_reducible apply blk_alloc) | (with_reducible apply blk_drew) | (with_reducible apply blk_drewN) | ((with_reducible apply blk_up); assumption) | (with_reducible apply blk_same) | ((with_reducible apply blk_else); (focus (first | (simp; done) | (simp; omega) | omega)))))); exact rfl) | ((with_reducible apply st_rowP infoW); exact rfl; exact rfl; focus (repeat (first | assumption | ((with_reducible apply row_newc); (focus (first | rfl | (simp; done)))) | ((with_reducible apply row_newz); (focus (first | rfl | (simp; done)))) | (with_reducible apply row_same) | ((with_reducible apply row_else); (focus (first | (simp; done) | (simp; omega) | omega))) | (with_reducible apply row_alloc) | (with_reducible apply row_drew) | (with_reducible apply row_drewN) | ((with_reducible apply row_up); assumption)))) | ((with_reducible apply st_rowZ infoW); exact rfl; exact rfl; focus (repeat (first | assumption | ((with_reducible apply row_newc); (focus (first | rfl | (simp; done)))) | ((with_reducible apply row_newz); (focus (first | rfl | (simp; done)))) | (with_reducible apply row_same) | ((with_reducible apply row_else); (focus (first | (simp; done) | (simp; omega) | omega))) | (with_reducible apply row_alloc) | (with_reducible apply row_drew) | (with_reducible apply row_drewN) | ((with_reducible apply row_up); assumption)))) | (go_at_call 15; (with_reducible refine (HML.out _ _ _ (by (repeat (first | assumption | ((with_reducible apply big_set); (focus (repeat (first | assumption | ((with_reducible apply blk_new); (focus (first | rfl | (simp; done)))) | (with_reducible apply blk_alloc) | (with_reducible apply blk_drew) | (with_reducible apply blk_drewN) | ((with_reducible apply blk_up); assumption) | (with_reducible apply blk_same) | ((with_reducible apply blk_else); (focus (first | (simp; done) | (simp; omega) | omega))))))) | (with_reducible apply big_alloc) | ((with_reducible apply big_up); assumption))); done) (by (repeat (first | assumption | ((with_reducible apply big_set); (focus (repeat (first | assumption | ((with_reducible apply blk_new); (focus (first | rfl | (simp; done)))) | (with_reducible apply blk_alloc) | (with_reducible apply blk_drew) | (with_reducible apply blk_drewN) | ((with_reducible apply blk_up); assumption) | (with_reducible apply blk_same) | ((with_reducible apply blk_else); (focus (first | (simp; done) | (simp; omega) | omega))))))) | (with_reducible apply big_alloc) | ((with_reducible apply big_up); assumption))); done)).mono ?_); rintro e wM ⟨huM, vM, rfl, hM⟩; obtain ⟨bM, aM, nM, cM, rfl⟩ := hM.shape; have hsM := huM.size) | (go_at_call 14; (with_reducible refine (HTU.out _ _ (by (repeat (first | assumption | ((with_reducible apply big_set); (focus (repeat (first | assumption | ((with_reducible apply blk_new); (focus (first | rfl | (simp; done)))) | (with_reducible apply blk_alloc) | (with_reducible apply blk_drew) | (with_reducible apply blk_drewN) | ((with_reducible apply blk_up); assumption) | (with_reducible apply blk_same) | ((with_reducible apply blk_else); (focus (first | (simp; done) | (simp; omega) | omega))))))) | (with_reducible apply big_alloc) | ((with_reducible apply big_up); assumption))); done)).mono ?_); rintro e wT ⟨rfl, huT⟩; have hsT := huT.size))
        try simp only [Act.put]
        refine wp_world (fun wd => Up x3 wd) (by repeat (first | assumption | (with_reducible apply Up.of) | (with_reducible exact Below.refl _ _) | (with_reducible exact Up.refl _) | ((with_reducible apply bl_setRow); (focus (first | exact Nat.le_refl _ | (simp; done) | (simp; omega) | omega))) | (with_reducible apply below_drewN) | (with_reducible apply Below.drew) | ((with_reducible apply bl_alloc); (focus (first | exact Nat.le_refl _ | (simp; done) | (simp; omega) | omega))) | ((with_reducible apply bl_setCell); (focus (first | exact Nat.le_refl _ | (simp; done) | (simp; omega) | omega))) | ((with_reducible apply up_tr); assumption))) (fun x4 hux => ?_)
        clear huM hsM huT hsT hM k1
        replace rN := rN.up hux
        replace dT := dT.up hux
        replace dX := dX.up hux
        replace dY := dY.up hux
        replace hT := hT.up hux
        replace hX := hX.up hux
        replace hY := hY.up hux
        replace rL := below_up rL hux
        clear hux
        generalize wT.heap.size = gU at *
        have k1 := rL.size
        go_upto_region 15 with (first | ((with_reducible apply ldB_P); exact rfl; exact rfl; (focus (repeat (first | assumption | ((with_reducible apply blk_new); (focus (first | rfl | (simp; done)))) | (with_reducible apply blk_alloc) | (with_reducible apply blk_drew) | (with_reducible apply blk_drewN) | ((with_reducible apply blk_up); assumption) | (with_reducible apply blk_same) | ((with_reducible apply blk_else); (focus (first | (simp; done) | (simp; omega) | omega)))))); exact rfl) | ((with_reducible apply st_rowP infoW); exact rfl; exact rfl; focus (repeat (first | assumption | ((with_reducible apply row_newc); (focus (first | rfl | (simp; done)))) | ((with_reducible apply row_newz); (focus (first | rfl | (simp; done)))) | (with_reducible apply row_same) | ((with_reducible apply row_else); (focus (first | (simp; done) | (simp; omega) | omega))) | (with_reducible apply row_alloc) | (with_reducible apply row_drew) | (with_reducible apply row_drewN) | ((with_reducible apply row_up); assumption)))) | ((with_reducible apply st_rowZ infoW); exact rfl; exact rfl; focus (repeat (first | assumption | ((with_reducible apply row_newc); (focus (first | rfl | (simp; done)))) | ((with_reducible apply row_newz); (focus (first | rfl | (simp; done)))) | (with_reducible apply row_same) | ((with_reducible apply row_else); (focus (first | (simp; done) | (simp; omega) | omega))) | (with_reducible apply row_alloc) | (with_reducible apply row_drew) | (with_reducible apply row_drewN) | ((with_reducible apply row_up); assumption)))) | (go_at_call 15; (with_reducible refine (HMY.out _ _ _ (by (repeat (first | assumption | ((with_reducible apply big_set); (focus (repeat (first | assumption | ((with_reducible apply blk_new); (focus (first | rfl | (simp; done)))) | (with_reducible apply blk_alloc) | (with_reducible apply blk_drew) | (with_reducible apply blk_drewN) | ((with_reducible apply blk_up); assumption) | (with_reducible apply blk_same) | ((with_reducible apply blk_else); (focus (first | (simp; done) | (simp; omega) | omega))))))) | (with_reducible apply big_alloc) | ((with_reducible apply big_up); assumption))); done) (by (repeat (first | assumption | ((with_reducible apply big_set); (focus (repeat (first | assumption | ((with_reducible apply blk_new); (focus (first | rfl | (simp; done)))) | (with_reducible apply blk_alloc) | (with_reducible apply blk_drew) | (with_reducible apply blk_drewN) | ((with_reducible apply blk_up); assumption) | (with_reducible apply blk_same) | ((with_reducible apply blk_else); (focus (first | (simp; done) | (simp; omega) | omega))))))) | (with_reducible apply big_alloc) | ((with_reducible apply big_up); assumption))); done)).mono ?_); rintro e wM ⟨huM, vM, rfl, hM⟩; obtain ⟨bM, aM, nM, cM, rfl⟩ := hM.shape; have hsM := huM.size) | (go_at_call 14; (with_reducible refine (HTV.out _ _ (by (repeat (first | assumption | ((with_reducible apply big_set); (focus (repeat (first | assumption | ((with_reducible apply blk_new); (focus (first | rfl | (simp; done)))) | (with_reducible apply blk_alloc) | (with_reducible apply blk_drew) | (with_reducible apply blk_drewN) | ((with_reducible apply blk_up); assumption) | (with_reducible apply blk_same) | ((with_reducible apply blk_else); (focus (first | (simp; done) | (simp; omega) | omega))))))) | (with_reducible apply big_alloc) | ((with_reducible apply big_up); assumption))); done)).mono ?_); rintro e wT ⟨rfl, huT⟩; have hsT := huT.size))
        try simp only [Act.put]
        refine wp_world (fun wd => Up x4 wd) (by repeat (first | assumption | (with_reducible apply Up.of) | (with_reducible exact Below.refl _ _) | (with_reducible exact Up.refl _) | ((with_reducible apply bl_setRow); (focus (first | exact Nat.le_refl _ | (simp; done) | (simp; omega) | omega))) | (with_reducible apply below_drewN) | (with_reducible apply Below.drew) | ((with_reducible apply bl_alloc); (focus (first | exact Nat.le_refl _ | (simp; done) | (simp; omega) | omega))) | ((with_reducible apply bl_setCell); (focus (first | exact Nat.le_refl _ | (simp; done) | (simp; omega) | omega))) | ((with_reducible apply up_tr); assumption))) (fun x5 hux => ?_)
        clear huM hsM huT hsT hM k1
        replace rN := rN.up hux
        replace dT := dT.up hux
        replace dX := dX.up hux
        replace dY := dY.up hux
        replace hT := hT.up hux
        replace hX := hX.up hux
        replace hY := hY.up hux
        replace rL := below_up rL hux
        clear hux
        generalize wT.heap.size = gV at *
        go_cut [33, 34] (fun _ t34 wc => t34 = .bool kw ∧ Five w gN gT gX gY fn qo ao no co b4 a4 n4 c4 b5 a5 n5 c5 x y wc)
        case first =>
          refine wp_region_upH (S := (fun wq => Row wq gN 27 16 fn ∧ Blk wq gT 30 #[.bool qo, .slice ao no co] ∧ Blk wq gX 30 #[.bool b4, .slice a4 n4 c4] ∧ Blk wq gY 30 #[.bool b5, .slice a5 n5 c5] ∧ Big wq (.agg #[.bool qo, .slice ao no co]) 2 ∧ Big wq (.agg #[.bool b4, .slice a4 n4 c4]) x ∧ Big wq (.agg #[.bool b5, .slice a5 n5 c5]) y ∧ Below w.heap.size w wq)) (req := (fun j => j != 10)) (by kernel_rfl) (fun _ _ h hu => ⟨(h.1).up hu, (h.2.1).up hu, (h.2.2.1).up hu, (h.2.2.2.1).up hu, (h.2.2.2.2.1).up hu, (h.2.2.2.2.2.1).up hu, (h.2.2.2.2.2.2.1).up hu, below_up (h.2.2.2.2.2.2.2) hu⟩) ⟨(by (repeat (first | assumption | ((with_reducible apply row_newc); (focus (first | rfl | (simp; done)))) | ((with_reducible apply row_newz); (focus (first | rfl | (simp; done)))) | (with_reducible apply row_same) | ((with_reducible apply row_else); (focus (first | (simp; done) | (simp; omega) | omega))) | (with_reducible apply row_alloc) | (with_reducible apply row_drew) | (with_reducible apply row_drewN) | ((with_reducible apply row_up); assumption)))), (by (repeat (first | assumption | ((with_reducible apply blk_new); (focus (first | rfl | (simp; done)))) | (with_reducible apply blk_alloc) | (with_reducible apply blk_drew) | (with_reducible apply blk_drewN) | ((with_reducible apply blk_up); assumption) | (with_reducible apply blk_same) | ((with_reducible apply blk_else); (focus (first | (simp; done) | (simp; omega) | omega)))))), (by (repeat (first | assumption | ((with_reducible apply blk_new); (focus (first | rfl | (simp; done)))) | (with_reducible apply blk_alloc) | (with_reducible apply blk_drew) | (with_reducible apply blk_drewN) | ((with_reducible apply blk_up); assumption) | (with_reducible apply blk_same) | ((with_reducible apply blk_else); (focus (first | (simp; done) | (simp; omega) | omega)))))), (by (repeat (first | assumption | ((with_reducible apply blk_new); (focus (first | rfl | (simp; done)))) | (with_reducible apply blk_alloc) | (with_reducible apply blk_drew) | (with_reducible apply blk_drewN) | ((with_reducible apply blk_up); assumption) | (with_reducible apply blk_same) | ((with_reducible apply blk_else); (focus (first | (simp; done) | (simp; omega) | omega)))))), (by (repeat (first | assumption | ((with_reducible apply big_set); (focus (repeat (first | assumption | ((with_reducible apply blk_new); (focus (first | rfl | (simp; done)))) | (with_reducible apply blk_alloc) | (with_reducible apply blk_drew) | (with_reducible apply blk_drewN) | ((with_reducible apply blk_up); assumption) | (with_reducible apply blk_same) | ((with_reducible apply blk_else); (focus (first | (simp; done) | (simp; omega) | omega))))))) | (with_reducible apply big_alloc) | ((with_reducible apply big_up); assumption))); done), (by (repeat (first | assumption | ((with_reducible apply big_set); (focus (repeat (first | assumption | ((with_reducible apply blk_new); (focus (first | rfl | (simp; done)))) | (with_reducible apply blk_alloc) | (with_reducible apply blk_drew) | (with_reducible apply blk_drewN) | ((with_reducible apply blk_up); assumption) | (with_reducible apply blk_same) | ((with_reducible apply blk_else); (focus (first | (simp; done) | (simp; omega) | omega))))))) | (with_reducible apply big_alloc) | ((with_reducible apply big_up); assumption))); done), (by (repeat (first | assumption | ((with_reducible apply big_set); (focus (repeat (first | assumption | ((with_reducible apply blk_new); (focus (first | rfl | (simp; done)))) | (with_reducible apply blk_alloc) | (with_reducible apply blk_drew) | (with_reducible apply blk_drewN) | ((with_reducible apply blk_up); assumption) | (with_reducible apply blk_same) | ((with_reducible apply blk_else); (focus (first | (simp; done) | (simp; omega) | omega))))))) | (with_reducible apply big_alloc) | ((with_reducible apply big_up); assumption))); done), (by repeat (first | assumption | (with_reducible apply Up.of) | (with_reducible exact Below.refl _ _) | (with_reducible exact Up.refl _) | ((with_reducible apply bl_setRow); (focus (first | exact Nat.le_refl _ | (simp; done) | (simp; omega) | omega))) | (with_reducible apply below_drewN) | (with_reducible apply Below.drew) | ((with_reducible apply bl_alloc); (focus (first | exact Nat.le_refl _ | (simp; done) | (simp; omega) | omega))) | ((with_reducible apply bl_setCell); (focus (first | exact Nat.le_refl _ | (simp; done) | (simp; omega) | omega))) | ((with_reducible apply up_tr); assumption)))⟩ (fun wS hSS hSu => ?_)
          have ⟨hS1, hS2, hS3, hS4, hS5, hS6, hS7, hSB⟩ := hSS
          refine wpAnyU_take (i := 0) (d := (some 133)) (v := _) rfl rfl (by kernel_rfl) (fun _ _ _ h => h) hSu.out hSS (Or.inl ⟨by rfl, fun w' hSw => yu_value (run_ldB rfl rfl hSw.2.1 rfl)⟩) ?_
          try simp only [Act.put, pu1, pu2, pu3]
          refine wpAnyU_take (i := 1) (d := (some 134)) (v := _) rfl rfl (by kernel_rfl) (fun _ _ _ h => h) hSu.out hSS (Or.inl ⟨by rfl, fun w' hSw => yu_value (run_ldB rfl rfl hSw.2.2.1 rfl)⟩) ?_
          try simp only [Act.put, pu1, pu2, pu3]
          refine wpAnyU_take (i := 3) (d := (some 136)) (v := _) rfl rfl (by kernel_rfl) (fun _ _ _ h => h) hSu.out hSS (Or.inl ⟨by rfl, fun w' hSw => yu_value (run_ldB rfl rfl hSw.2.2.2.1 rfl)⟩) ?_
          try simp only [Act.put, pu1, pu2, pu3]
          have hU := Up.refl wS
          refine wpAnyU_caW (i := 2) (j := 9) (d := some 135) (dj := some 33) (by kernel_rfl) rfl rfl (by rfl) rfl rfl (by rfl) rfl hSu.out (fun w' => by go_simp) (fun w' hw' => HML.out _ _ _ (hS5.up (hU.trans hw')) (hS6.up (hU.trans hw'))) (fun v36 w36 hw36 hr36 => ?_) (fun w36 hw36 => ?_)
          · try simp only [Act.put, pu1, pu2, pu3]
            replace hU := hU.trans hw36
            obtain ⟨b36, a36, n36, c36, rfl⟩ := hr36.shape
            have hM := hr36
            clear hr36 hw36
            refine wpAnyU_caW (i := 4) (j := 9) (d := some 137) (dj := some 33) (by kernel_rfl) rfl rfl (by rfl) rfl rfl (by rfl) rfl hSu.out (fun w' => by go_simp) (fun w' hw' => HAD.out _ _ _ (hM.up hw') (hS7.up (hU.trans hw'))) (fun v37 w37 hw37 hr37 => ?_) (fun w37 hw37 => ?_)
            · try simp only [Act.put, pu1, pu2, pu3]
              replace hU := hU.trans hw37
              obtain ⟨b37, a37, n37, c37, rfl⟩ := hr37.shape
              clear hM
              have hM := hr37
              clear hr37 hw37
              refine wpAnyU_caW (i := 5) (j := 9) (d := some 138) (dj := some 33) (by kernel_rfl) rfl rfl (by rfl) rfl rfl (by rfl) rfl hSu.out (fun w' => by go_simp) (fun w' hw' => callE_of (HTW.out _ _ (hM.up hw'))) (fun v38 w38 hw38 hr38 => ?_) (fun w38 hw38 => ?_)
              · try simp only [Act.put, pu1, pu2, pu3]
                replace hU := hU.trans hw38
                obtain rfl := hr38
                clear hw38 hM
                refine wpAnyU_pure (i := 6) (d := (some 132)) (v := ?_) rfl rfl (by kernel_rfl) (fun _ _ _ h => h) hSu.out (Or.inl ⟨by rfl, fun w' _ => yu_value ?_⟩) ?_
                rotate_left
                · (go_simp; (try exact rfl))
                try simp only [Act.put, pu1, pu2, pu3]
                refine wpAnyU_pure (i := 7) (d := (some 139)) (v := ?_) rfl rfl (by kernel_rfl) (fun _ _ _ h => h) hSu.out (Or.inl ⟨by rfl, fun w' _ => yu_value ?_⟩) ?_
                rotate_left
                · (go_simp; (try exact rfl))
                try simp only [Act.put, pu1, pu2, pu3]
                refine wpAnyU_pure (i := 8) (d := (some 140)) (v := ?_) rfl rfl (by kernel_rfl) (fun _ _ _ h => h) hSu.out (Or.inl ⟨by rfl, fun w' _ => yu_value ?_⟩) ?_
                rotate_left
                · (go_simp; (try exact rfl))
                try simp only [Act.put, pu1, pu2, pu3]
                refine wpAnyU_allocW (i := 9) (d := some 33) rfl rfl (by kernel_rfl) (by rfl) rfl hSu.out fun w39 hw39 => ?_
                try simp only [Act.put, pu1, pu2, pu3]
                have hple : wS.heap.size ≤ w39.heap.size := (hU.trans hw39).size
                have hp : Row (w39.alloc (.cells (cells 16 (fun _ => 0)) 27)) w39.heap.size 27 16 (fun _ => 0) := row_newc _ _ _ rfl
                replace hU := (hU.trans hw39).trans (Up.alloc _ (.cells (cells 16 (fun _ => 0)) 27))
                generalize ep : w39.heap.size = p' at hp hple ⊢
                refine wpAnyU_one (i := 10) rfl (by kernel_rfl) (by rfl) fun s1 hs1 => ?_
                have k1 := hp.up hs1
                refine wp_st_rowN infoW rfl _ _ rfl _ rfl rfl k1 ?_
                refine ⟨fun h => by simp at h, ?_⟩
                try simp only [Act.put, pu1]
                refine wpAnyU_pure (i := 11) (d := (some 34)) (v := ?_) rfl rfl (by kernel_rfl) (fun _ _ _ h => h) hSu.out (Or.inl ⟨by rfl, fun w' _ => yu_value ?_⟩) ?_
                rotate_left
                · (go_simp; (try exact rfl))
                try simp only [Act.put, pu1, pu2, pu3]
                refine wpAnyU_done (by kernel_rfl) (fun wF huE => ?_) _
                have hUF : Up wS wF := below_up (below_setRow (hU.trans hs1) hple _) huE
                have hR : Five w gN gT gX gY fn qo ao no co b4 a4 n4 c4 b5 a5 n5 c5 x y wF := ⟨hS1.up hUF, hS2.up hUF, hS3.up hUF, hS4.up hUF, hS5.up hUF, hS6.up hUF, hS7.up hUF, below_up hSB hUF⟩
                go_wp2_with fail
                go_meet
                case rel => exact ⟨rfl, hR⟩
              · try simp only [Act.put, pu1, pu2, pu3]
                have hple : wS.heap.size ≤ w38.heap.size := (hU.trans hw38).size
                have hp : Row (w38.alloc (.cells (cells 16 (fun _ => 0)) 27)) w38.heap.size 27 16 (fun _ => 0) := row_newc _ _ _ rfl
                replace hM := (hM.up hw38).up (Up.alloc _ (.cells (cells 16 (fun _ => 0)) 27))
                replace hU := (hU.trans hw38).trans (Up.alloc _ (.cells (cells 16 (fun _ => 0)) 27))
                generalize ep : w38.heap.size = p' at hp hple ⊢
                refine wpAnyU_callE (i := 5) (d := some 138) rfl rfl (by kernel_rfl) (by rfl) hSu.out (fun w' => by go_simp) (fun w' hw' => callE_of (HTW.out _ _ (hM.up hw'))) (fun v40 w40 hw40 hr40 => ?_)
                try simp only [Act.put, pu1, pu2, pu3]
                replace hU := hU.trans hw40
                replace hp := hp.up hw40
                obtain rfl := hr40
                clear hw40 hM
                refine wpAnyU_pure (i := 6) (d := (some 132)) (v := ?_) rfl rfl (by kernel_rfl) (fun _ _ _ h => h) hSu.out (Or.inl ⟨by rfl, fun w' _ => yu_value ?_⟩) ?_
                rotate_left
                · (go_simp; (try exact rfl))
                try simp only [Act.put, pu1, pu2, pu3]
                refine wpAnyU_pure (i := 7) (d := (some 139)) (v := ?_) rfl rfl (by kernel_rfl) (fun _ _ _ h => h) hSu.out (Or.inl ⟨by rfl, fun w' _ => yu_value ?_⟩) ?_
                rotate_left
                · (go_simp; (try exact rfl))
                try simp only [Act.put, pu1, pu2, pu3]
                refine wpAnyU_pure (i := 8) (d := (some 140)) (v := ?_) rfl rfl (by kernel_rfl) (fun _ _ _ h => h) hSu.out (Or.inl ⟨by rfl, fun w' _ => yu_value ?_⟩) ?_
                rotate_left
                · (go_simp; (try exact rfl))
                try simp only [Act.put, pu1, pu2, pu3]
                refine wpAnyU_one (i := 10) rfl (by kernel_rfl) (by rfl) fun s1 hs1 => ?_
                have k1 := hp.up hs1
                refine wp_st_rowN infoW rfl _ _ rfl _ rfl rfl k1 ?_
                refine ⟨fun h => by simp at h, ?_⟩
                try simp only [Act.put, pu1]
                refine wpAnyU_pure (i := 11) (d := (some 34)) (v := ?_) rfl rfl (by kernel_rfl) (fun _ _ _ h => h) hSu.out (Or.inl ⟨by rfl, fun w' _ => yu_value ?_⟩) ?_
                rotate_left
                · (go_simp; (try exact rfl))
                try simp only [Act.put, pu1, pu2, pu3]
                refine wpAnyU_done (by kernel_rfl) (fun wF huE => ?_) _
                have hUF : Up wS wF := below_up (below_setRow (hU.trans hs1) hple _) huE
                have hR : Five w gN gT gX gY fn qo ao no co b4 a4 n4 c4 b5 a5 n5 c5 x y wF := ⟨hS1.up hUF, hS2.up hUF, hS3.up hUF, hS4.up hUF, hS5.up hUF, hS6.up hUF, hS7.up hUF, below_up hSB hUF⟩
                go_wp2_with fail
                go_meet
                case rel => exact ⟨rfl, hR⟩
            · try simp only [Act.put, pu1, pu2, pu3]
              have hple : wS.heap.size ≤ w37.heap.size := (hU.trans hw37).size
              have hp : Row (w37.alloc (.cells (cells 16 (fun _ => 0)) 27)) w37.heap.size 27 16 (fun _ => 0) := row_newc _ _ _ rfl
              replace hM := (hM.up hw37).up (Up.alloc _ (.cells (cells 16 (fun _ => 0)) 27))
              replace hU := (hU.trans hw37).trans (Up.alloc _ (.cells (cells 16 (fun _ => 0)) 27))
              generalize ep : w37.heap.size = p' at hp hple ⊢
              refine wpAnyU_callE (i := 4) (d := some 137) rfl rfl (by kernel_rfl) (by rfl) hSu.out (fun w' => by go_simp) (fun w' hw' => HAD.out _ _ _ (hM.up hw') (hS7.up (hU.trans hw'))) (fun v42 w42 hw42 hr42 => ?_)
              try simp only [Act.put, pu1, pu2, pu3]
              replace hU := hU.trans hw42
              replace hp := hp.up hw42
              obtain ⟨b42, a42, n42, c42, rfl⟩ := hr42.shape
              clear hM
              have hM := hr42
              clear hr42 hw42
              refine wpAnyU_callE (i := 5) (d := some 138) rfl rfl (by kernel_rfl) (by rfl) hSu.out (fun w' => by go_simp) (fun w' hw' => callE_of (HTW.out _ _ (hM.up hw'))) (fun v43 w43 hw43 hr43 => ?_)
              try simp only [Act.put, pu1, pu2, pu3]
              replace hU := hU.trans hw43
              replace hp := hp.up hw43
              obtain rfl := hr43
              clear hw43 hM
              refine wpAnyU_pure (i := 6) (d := (some 132)) (v := ?_) rfl rfl (by kernel_rfl) (fun _ _ _ h => h) hSu.out (Or.inl ⟨by rfl, fun w' _ => yu_value ?_⟩) ?_
              rotate_left
              · (go_simp; (try exact rfl))
              try simp only [Act.put, pu1, pu2, pu3]
              refine wpAnyU_pure (i := 7) (d := (some 139)) (v := ?_) rfl rfl (by kernel_rfl) (fun _ _ _ h => h) hSu.out (Or.inl ⟨by rfl, fun w' _ => yu_value ?_⟩) ?_
              rotate_left
              · (go_simp; (try exact rfl))
              try simp only [Act.put, pu1, pu2, pu3]
              refine wpAnyU_pure (i := 8) (d := (some 140)) (v := ?_) rfl rfl (by kernel_rfl) (fun _ _ _ h => h) hSu.out (Or.inl ⟨by rfl, fun w' _ => yu_value ?_⟩) ?_
              rotate_left
              · (go_simp; (try exact rfl))
              try simp only [Act.put, pu1, pu2, pu3]
              refine wpAnyU_one (i := 10) rfl (by kernel_rfl) (by rfl) fun s1 hs1 => ?_
              have k1 := hp.up hs1
              refine wp_st_rowN infoW rfl _ _ rfl _ rfl rfl k1 ?_
              refine ⟨fun h => by simp at h, ?_⟩
              try simp only [Act.put, pu1]
              refine wpAnyU_pure (i := 11) (d := (some 34)) (v := ?_) rfl rfl (by kernel_rfl) (fun _ _ _ h => h) hSu.out (Or.inl ⟨by rfl, fun w' _ => yu_value ?_⟩) ?_
              rotate_left
              · (go_simp; (try exact rfl))
              try simp only [Act.put, pu1, pu2, pu3]
              refine wpAnyU_done (by kernel_rfl) (fun wF huE => ?_) _
              have hUF : Up wS wF := below_up (below_setRow (hU.trans hs1) hple _) huE
              have hR : Five w gN gT gX gY fn qo ao no co b4 a4 n4 c4 b5 a5 n5 c5 x y wF := ⟨hS1.up hUF, hS2.up hUF, hS3.up hUF, hS4.up hUF, hS5.up hUF, hS6.up hUF, hS7.up hUF, below_up hSB hUF⟩
              go_wp2_with fail
              go_meet
              case rel => exact ⟨rfl, hR⟩
          · try simp only [Act.put, pu1, pu2, pu3]
            have hple : wS.heap.size ≤ w36.heap.size := (hU.trans hw36).size
            have hp : Row (w36.alloc (.cells (cells 16 (fun _ => 0)) 27)) w36.heap.size 27 16 (fun _ => 0) := row_newc _ _ _ rfl
            replace hU := (hU.trans hw36).trans (Up.alloc _ (.cells (cells 16 (fun _ => 0)) 27))
            generalize ep : w36.heap.size = p' at hp hple ⊢
            refine wpAnyU_callE (i := 2) (d := some 135) rfl rfl (by kernel_rfl) (by rfl) hSu.out (fun w' => by go_simp) (fun w' hw' => HML.out _ _ _ (hS5.up (hU.trans hw')) (hS6.up (hU.trans hw'))) (fun v45 w45 hw45 hr45 => ?_)
            try simp only [Act.put, pu1, pu2, pu3]
            replace hU := hU.trans hw45
            replace hp := hp.up hw45
            obtain ⟨b45, a45, n45, c45, rfl⟩ := hr45.shape
            have hM := hr45
            clear hr45 hw45
            refine wpAnyU_callE (i := 4) (d := some 137) rfl rfl (by kernel_rfl) (by rfl) hSu.out (fun w' => by go_simp) (fun w' hw' => HAD.out _ _ _ (hM.up hw') (hS7.up (hU.trans hw'))) (fun v46 w46 hw46 hr46 => ?_)
            try simp only [Act.put, pu1, pu2, pu3]
            replace hU := hU.trans hw46
            replace hp := hp.up hw46
            obtain ⟨b46, a46, n46, c46, rfl⟩ := hr46.shape
            clear hM
            have hM := hr46
            clear hr46 hw46
            refine wpAnyU_callE (i := 5) (d := some 138) rfl rfl (by kernel_rfl) (by rfl) hSu.out (fun w' => by go_simp) (fun w' hw' => callE_of (HTW.out _ _ (hM.up hw'))) (fun v47 w47 hw47 hr47 => ?_)
            try simp only [Act.put, pu1, pu2, pu3]
            replace hU := hU.trans hw47
            replace hp := hp.up hw47
            obtain rfl := hr47
            clear hw47 hM
            refine wpAnyU_pure (i := 6) (d := (some 132)) (v := ?_) rfl rfl (by kernel_rfl) (fun _ _ _ h => h) hSu.out (Or.inl ⟨by rfl, fun w' _ => yu_value ?_⟩) ?_
            rotate_left
            · (go_simp; (try exact rfl))
            try simp only [Act.put, pu1, pu2, pu3]
            refine wpAnyU_pure (i := 7) (d := (some 139)) (v := ?_) rfl rfl (by kernel_rfl) (fun _ _ _ h => h) hSu.out (Or.inl ⟨by rfl, fun w' _ => yu_value ?_⟩) ?_
            rotate_left
            · (go_simp; (try exact rfl))
            try simp only [Act.put, pu1, pu2, pu3]
            refine wpAnyU_pure (i := 8) (d := (some 140)) (v := ?_) rfl rfl (by kernel_rfl) (fun _ _ _ h => h) hSu.out (Or.inl ⟨by rfl, fun w' _ => yu_value ?_⟩) ?_
            rotate_left
            · (go_simp; (try exact rfl))
            try simp only [Act.put, pu1, pu2, pu3]
            refine wpAnyU_one (i := 10) rfl (by kernel_rfl) (by rfl) fun s1 hs1 => ?_
            have k1 := hp.up hs1
            refine wp_st_rowN infoW rfl _ _ rfl _ rfl rfl k1 ?_
            refine ⟨fun h => by simp at h, ?_⟩
            try simp only [Act.put, pu1]
            refine wpAnyU_pure (i := 11) (d := (some 34)) (v := ?_) rfl rfl (by kernel_rfl) (fun _ _ _ h => h) hSu.out (Or.inl ⟨by rfl, fun w' _ => yu_value ?_⟩) ?_
            rotate_left
            · (go_simp; (try exact rfl))
            try simp only [Act.put, pu1, pu2, pu3]
            refine wpAnyU_done (by kernel_rfl) (fun wF huE => ?_) _
            have hUF : Up wS wF := below_up (below_setRow (hU.trans hs1) hple _) huE
            have hR : Five w gN gT gX gY fn qo ao no co b4 a4 n4 c4 b5 a5 n5 c5 x y wF := ⟨hS1.up hUF, hS2.up hUF, hS3.up hUF, hS4.up hUF, hS5.up hUF, hS6.up hUF, hS7.up hUF, below_up hSB hUF⟩
            go_wp2_with fail
            go_meet
            case rel => exact ⟨rfl, hR⟩
        case rest =>
          clear rN dT dX dY hT hX hY rL
          obtain ⟨rfl, rN, -, dX, dY, -, hX, hY, rL⟩ := hcut
          have k1 := rL.size
          cases kn with
          | true =>
            obtain ⟨hyp, iu, iv, iw, rfl⟩ := Hn1.out rfl
            obtain rfl : ku = true := by rw [HBU.out]; exact decide_eq_true iu
            obtain rfl : kv = true := by rw [HBV.out]; exact decide_eq_true iv
            obtain rfl : kw = true := by rw [HBW.out]; exact decide_eq_true iw
            have es : sy = 1 := by rw [← Hsy.out]; unfold sgn; rw [if_neg (by omega), if_neg (by omega)]
            have hSI := HSI.out
            rw [es] at hSI
            have HSI := hid hSI
            have HW := hid (fun w u (h : Big w u ((2 * x + y) / (2 * y))) => help_wide (near_in hyp iw) h (nl_in2 (near_in hyp iw)))
            unfold wideV at HW
            have HR2 := hid (fun w a b (ha : Big w a x) (hb : Big w b y) => HRN.out w a b ha hb hyp)
            clear hSI es iu iv iw hyp
            generalize enc ((2 * x + y) / (2 * y)) = en at *
            go_upto_region 18 with (first | go_skip | ((with_reducible apply ldB_P); exact rfl; exact rfl; (focus (repeat (first | assumption | ((with_reducible apply blk_new); (focus (first | rfl | (simp; done)))) | (with_reducible apply blk_alloc) | (with_reducible apply blk_drew) | (with_reducible apply blk_drewN) | ((with_reducible apply blk_up); assumption) | (with_reducible apply blk_same) | ((with_reducible apply blk_else); (focus (first | (simp; done) | (simp; omega) | omega)))))); exact rfl) | (go_at_call 9; (with_reducible refine (HSI.out _ _ (by (repeat (first | assumption | ((with_reducible apply big_set); (focus (repeat (first | assumption | ((with_reducible apply blk_new); (focus (first | rfl | (simp; done)))) | (with_reducible apply blk_alloc) | (with_reducible apply blk_drew) | (with_reducible apply blk_drewN) | ((with_reducible apply blk_up); assumption) | (with_reducible apply blk_same) | ((with_reducible apply blk_else); (focus (first | (simp; done) | (simp; omega) | omega))))))) | (with_reducible apply big_alloc) | ((with_reducible apply big_up); assumption))); done)).mono ?_); rintro e wS ⟨rfl, huS⟩; have hsS := huS.size))
            try simp only [Act.put]
            refine wp_region_upH (S := (fun wq => Row wq gN 27 16 (limb en) ∧ Blk wq gX 30 #[.bool b4, .slice a4 n4 c4] ∧ Blk wq gY 30 #[.bool b5, .slice a5 n5 c5] ∧ Big wq (.agg #[.bool b4, .slice a4 n4 c4]) x ∧ Big wq (.agg #[.bool b5, .slice a5 n5 c5]) y ∧ Below w.heap.size w wq)) (req := (fun _ => true)) (by kernel_rfl) (fun _ _ h hu => ⟨(h.1).up hu, (h.2.1).up hu, (h.2.2.1).up hu, (h.2.2.2.1).up hu, (h.2.2.2.2.1).up hu, below_up (h.2.2.2.2.2) hu⟩) ⟨(by (repeat (first | assumption | ((with_reducible apply row_newc); (focus (first | rfl | (simp; done)))) | ((with_reducible apply row_newz); (focus (first | rfl | (simp; done)))) | (with_reducible apply row_same) | ((with_reducible apply row_else); (focus (first | (simp; done) | (simp; omega) | omega))) | (with_reducible apply row_alloc) | (with_reducible apply row_drew) | (with_reducible apply row_drewN) | ((with_reducible apply row_up); assumption)))), (by (repeat (first | assumption | ((with_reducible apply blk_new); (focus (first | rfl | (simp; done)))) | (with_reducible apply blk_alloc) | (with_reducible apply blk_drew) | (with_reducible apply blk_drewN) | ((with_reducible apply blk_up); assumption) | (with_reducible apply blk_same) | ((with_reducible apply blk_else); (focus (first | (simp; done) | (simp; omega) | omega)))))), (by (repeat (first | assumption | ((with_reducible apply blk_new); (focus (first | rfl | (simp; done)))) | (with_reducible apply blk_alloc) | (with_reducible apply blk_drew) | (with_reducible apply blk_drewN) | ((with_reducible apply blk_up); assumption) | (with_reducible apply blk_same) | ((with_reducible apply blk_else); (focus (first | (simp; done) | (simp; omega) | omega)))))), (by (repeat (first | assumption | ((with_reducible apply big_set); (focus (repeat (first | assumption | ((with_reducible apply blk_new); (focus (first | rfl | (simp; done)))) | (with_reducible apply blk_alloc) | (with_reducible apply blk_drew) | (with_reducible apply blk_drewN) | ((with_reducible apply blk_up); assumption) | (with_reducible apply blk_same) | ((with_reducible apply blk_else); (focus (first | (simp; done) | (simp; omega) | omega))))))) | (with_reducible apply big_alloc) | ((with_reducible apply big_up); assumption))); done), (by (repeat (first | assumption | ((with_reducible apply big_set); (focus (repeat (first | assumption | ((with_reducible apply blk_new); (focus (first | rfl | (simp; done)))) | (with_reducible apply blk_alloc) | (with_reducible apply blk_drew) | (with_reducible apply blk_drewN) | ((with_reducible apply blk_up); assumption) | (with_reducible apply blk_same) | ((with_reducible apply blk_else); (focus (first | (simp; done) | (simp; omega) | omega))))))) | (with_reducible apply big_alloc) | ((with_reducible apply big_up); assumption))); done), (by repeat (first | assumption | (with_reducible apply Up.of) | (with_reducible exact Below.refl _ _) | (with_reducible exact Up.refl _) | ((with_reducible apply bl_setRow); (focus (first | exact Nat.le_refl _ | (simp; done) | (simp; omega) | omega))) | (with_reducible apply below_drewN) | (with_reducible apply Below.drew) | ((with_reducible apply bl_alloc); (focus (first | exact Nat.le_refl _ | (simp; done) | (simp; omega) | omega))) | ((with_reducible apply bl_setCell); (focus (first | exact Nat.le_refl _ | (simp; done) | (simp; omega) | omega))) | ((with_reducible apply up_tr); assumption)))⟩ (fun wS hSS hSu => ?_)
            have ⟨hS1, hS2, hS3, hS4, hS5, hSB⟩ := hSS
            refine wpAnyU_pure (i := 0) (d := (some 163)) (v := ?_) rfl rfl (by kernel_rfl) (fun _ _ _ h => h) hSu.out (Or.inl ⟨by rfl, fun w' _ => yu_value ?_⟩) ?_
            rotate_left
            · (go_simp; (try exact rfl))
            try simp only [Act.put, pu1, pu2, pu3]
            refine wpAnyU_pure (i := 1) (d := (some 164)) (v := ?_) rfl rfl (by kernel_rfl) (fun _ _ _ h => h) hSu.out (Or.inl ⟨by rfl, fun w' _ => yu_value ?_⟩) ?_
            rotate_left
            · (go_simp; (try exact rfl))
            try simp only [Act.put, pu1, pu2, pu3]
            refine wpAnyU_take (i := 2) (d := (some 165)) (v := _) rfl rfl (by kernel_rfl) (fun _ _ _ h => h) hSu.out hSS (Or.inl ⟨by rfl, fun w' hSw => yu_value (run_ld undW infoW _ rfl _ rfl hSw.1)⟩) ?_
            try simp only [Act.put, pu1, pu2, pu3]
            refine wpAnyU_take (i := 3) (d := (some 166)) (v := _) rfl rfl (by kernel_rfl) (fun _ _ _ h => h) hSu.out hSS (Or.inl ⟨by rfl, fun w' hSw => yu_value (run_ldB rfl rfl hSw.2.1 rfl)⟩) ?_
            try simp only [Act.put, pu1, pu2, pu3]
            refine wpAnyU_take (i := 4) (d := (some 167)) (v := _) rfl rfl (by kernel_rfl) (fun _ _ _ h => h) hSu.out hSS (Or.inl ⟨by rfl, fun w' hSw => yu_value (run_ldB rfl rfl hSw.2.2.1 rfl)⟩) ?_
            try simp only [Act.put, pu1, pu2, pu3]
            refine wpAnyU_callE (i := 5) (d := (some 168)) rfl rfl (by kernel_rfl) (by rfl) hSu.out (fun w' => by go_simp) (fun w' hw' => (HR2.out _ _ _ (hS4.up hw') (hS5.up hw'))) fun vN wN hwN hRN => ?_
            try simp only [Act.put, pu1, pu2, pu3]
            obtain ⟨bN, aN, nN, cN, rfl⟩ := hRN.shape
            refine wpAnyU_callE (i := 6) (d := (some 169)) rfl rfl (by kernel_rfl) (by rfl) hSu.out (fun w' => by go_simp) (fun w' hw' => (callE_of (HW.out _ _ (hRN.up hw')))) fun vF wF hwF hRF => ?_
            try simp only [Act.put, pu1, pu2, pu3]
            obtain rfl := hRF
            refine wpAnyU_pure (i := 7) (d := (some 170)) (v := ?_) rfl rfl (by kernel_rfl) (fun _ _ _ h => h) hSu.out (Or.inl ⟨by rfl, fun w' _ => yu_value ?_⟩) ?_
            rotate_left
            · (go_simp; (try exact rfl))
            try simp only [Act.put, pu1, pu2, pu3]
            refine wpAnyU_pure (i := 8) (d := (some 16)) (v := ?_) rfl rfl (by kernel_rfl) (fun _ _ _ h => h) hSu.out (Or.inl ⟨by rfl, fun w' _ => yu_value ?_⟩) ?_
            rotate_left
            · (go_simp; (try exact rfl))
            try simp only [Act.put, pu1, pu2, pu3]
            refine wpAnyU_done (by kernel_rfl) (fun wF huE => ?_) _
            have gL := below_up (below_up (below_up hSB hwN) hwF) huE
            clear hS1 hS2 hS3 hS4 hS5 hSB hSS huE hwN hwF hRN
            go_wp2
            go_ret
            exact ⟨rfl, gL⟩
          | false =>
            obtain ⟨rfl, hno⟩ := Hn0.out rfl
            have hc : sy = -1 ∨ (sy = 1 ∧ (ku = false ∨ (ku = true ∧ (kv = false ∨ (kv = true ∧ kw = false))))) := by
              rw [← Hsy.out, HBU.out, HBV.out, HBW.out]
              unfold sgn
              rcases Int.lt_trichotomy y 0 with h | h | h
              · left; rw [if_pos h]
              · exact absurd h hy0
              · right
                refine ⟨by rw [if_neg (by omega), if_neg (by omega)], ?_⟩
                rcases hno with h1 | h1 | h1 | h1
                · omega
                · exact .inl (decide_eq_false h1)
                · by_cases h2 : InR (2 * x)
                  · exact .inr ⟨decide_eq_true h2, .inl (decide_eq_false h1)⟩
                  · exact .inl (decide_eq_false h2)
                · by_cases h2 : InR (2 * x)
                  · by_cases h3 : InR (2 * y)
                    · exact .inr ⟨decide_eq_true h2, .inr ⟨decide_eq_true h3, decide_eq_false h1⟩⟩
                    · exact .inr ⟨decide_eq_true h2, .inl (decide_eq_false h3)⟩
                  · exact .inl (decide_eq_false h2)
            have hSI := HSI.out
            clear hno HBU HBV HBW Hsy d0 HSI
            rcases hc with rfl | ⟨rfl, rfl | ⟨rfl, rfl | ⟨rfl, rfl⟩⟩⟩
            all_goals
              have HSI := hid hSI
              clear hSI
              go_wp2_with (first | go_skip | ((with_reducible apply ld_rowP undW infoW); exact rfl; exact rfl; focus (repeat (first | assumption | ((with_reducible apply row_newc); (focus (first | rfl | (simp; done)))) | ((with_reducible apply row_newz); (focus (first | rfl | (simp; done)))) | (with_reducible apply row_same) | ((with_reducible apply row_else); (focus (first | (simp; done) | (simp; omega) | omega))) | (with_reducible apply row_alloc) | (with_reducible apply row_drew) | (with_reducible apply row_drewN) | ((with_reducible apply row_up); assumption)))) | ((with_reducible apply ldB_P); exact rfl; exact rfl; (focus (repeat (first | assumption | ((with_reducible apply blk_new); (focus (first | rfl | (simp; done)))) | (with_reducible apply blk_alloc) | (with_reducible apply blk_drew) | (with_reducible apply blk_drewN) | ((with_reducible apply blk_up); assumption) | (with_reducible apply blk_same) | ((with_reducible apply blk_else); (focus (first | (simp; done) | (simp; omega) | omega)))))); exact rfl) | ((with_reducible apply eqSZP); exact rfl; exact rfl; exact rfl) | (go_at_call 9; (with_reducible refine (HSI.out _ _ (by (repeat (first | assumption | ((with_reducible apply big_set); (focus (repeat (first | assumption | ((with_reducible apply blk_new); (focus (first | rfl | (simp; done)))) | (with_reducible apply blk_alloc) | (with_reducible apply blk_drew) | (with_reducible apply blk_drewN) | ((with_reducible apply blk_up); assumption) | (with_reducible apply blk_same) | ((with_reducible apply blk_else); (focus (first | (simp; done) | (simp; omega) | omega))))))) | (with_reducible apply big_alloc) | ((with_reducible apply big_up); assumption))); done)).mono ?_); rintro e wS ⟨rfl, huS⟩; have hsS := huS.size))
              go_ret
              exact ⟨rfl, (by repeat (first | assumption | (with_reducible apply Up.of) | (with_reducible exact Below.refl _ _) | (with_reducible exact Up.refl _) | ((with_reducible apply bl_setRow); (focus (first | exact Nat.le_refl _ | (simp; done) | (simp; omega) | omega))) | (with_reducible apply below_drewN) | (with_reducible apply Below.drew) | ((with_reducible apply bl_alloc); (focus (first | exact Nat.le_refl _ | (simp; done) | (simp; omega) | omega))) | ((with_reducible apply bl_setCell); (focus (first | exact Nat.le_refl _ | (simp; done) | (simp; omega) | omega))) | ((with_reducible apply up_tr); assumption)))⟩
end Go.Proofs.Ytbogbdokllmanaa
/-
  What a law is told of a slice of limbs that came in, as the walks want it.
-/
namespace Go.Proofs.Ytbogbdokllmanaa
open Go Go.RowKit
set_option maxRecDepth 100000

theorem lim_of {w : World} {a : Option Addr} {len cap : Nat} {zs : List Int}
    (h : (a = none ∧ len = 0 ∧ cap = 0 ∧ zs = []) ∨ ∃ x, a = some x ∧ len ≤ cap ∧ cap ≤ maxLen ∧ zs.length = cap ∧ (∀ i, i < zs.length → w.cell? (x.add i) = some (.int .u64 (zs.getD i 0))) ∧ ∀ n ∈ zs, (Lit.int .u64 n).wf = true) :
    Lim w a len (fun i => (zs.getD i 0).toNat) := by
  rcases h with ⟨rfl, rfl, rfl, rfl⟩ | ⟨x, rfl, h1, h2, h3, h4, h5⟩
  · exact ⟨by omega, fun i => by simp, fun i hi => by omega⟩
  · have hb : ∀ i, 0 ≤ zs.getD i 0 ∧ zs.getD i 0 ≤ 18446744073709551615 := fun i => by
      by_cases hi : i < zs.length
      · have e : zs.getD i 0 = zs[i] := by simp [List.getD, hi]
        rw [e]
        exact bounds_u64 (h5 _ (List.getElem_mem hi))
      · have e : zs.getD i 0 = 0 := by simp [List.getD, hi]
        rw [e]; decide
    refine ⟨?_, fun i => ?_, fun i hi => ?_⟩
    · unfold maxLen at h2; omega
    · have := hb i; omega
    · obtain ⟨b, off, rfl, hc⟩ := ints_at h4 (by omega)
      refine ⟨b, off, rfl, fun w' hu => ?_⟩
      rw [Int.toNat_of_nonneg (hb i).1]
      exact hu.cell (hc i (by omega))
end Go.Proofs.Ytbogbdokllmanaa
