import Derived.Test.YtnpaodlhhcnbgaaGreatDoorPg
import Derived.DataShut
import Derived.Deep.DeepCutAuto
import Derived.Laws.StructEq
import Derived.Test.YtnpaodlhhcnbgaaGreatDoorRows
import Derived.Test.YtnpaodlhhcnbgaaGreatDoorTie
import Derived.ChangeSame
import Derived.ChangeVars
import Derived.JoinedOf
import Derived.RowKit
import Derived.RowKitTokens
import Derived.LaidLaws
import Derived.LaidHandle
import Derived.Stop.Joined
import Derived.ChangeMaps5
import Derived.SevenTiedAt
namespace Go.Proofs.YtnpaodlhhcnbgaaGreatDoor
open Go Go.RowKit
set_option maxRecDepth 100000
def RExactPost (w : World) (N : Int) (l x : List Int) (r : Ending) (w' : World) : Prop := ∃ z, r = .returned (.tuple #[z, .int .i64 (slC N l x)]) ∧ Up w w' ∧ RFv w' z (slD N.toNat l) (exL N l x)
theorem rfv_nil (w : World) (D : Int) : RFv w (.slice none 0 0) D [] := .inl ⟨rfl, _, _, rfl⟩
set_option maxHeartbeats 8000000 in
theorem rexact_bad {v xv : Value} {N : Int} {l x : List Int} {w : World} (hm : Sm w v N l) (hx : Vw w xv x) (hI : In64 x) (hs : x.length ≤ 1000) (hC : slC N l x ≠ 0) :
    Calls Tryz.prog 27 #[v, xv] w (RExactPost w N l x) := by
  have HFi := hid (fun w' (hu : Up w w') => rfine_any ((hm.up hu).up (Up.alloc _ _)) (lv_one (hx.up hu)) (fun i => by rcases i with _ | i; exact hI; exact fun j hj => absurd hj (Nat.not_lt_zero _)) (fun i => by rcases i with _ | i; exact hs; exact Nat.zero_le _) (show 1 ≤ 9 by decide))
  have HDf := hid (fun w' (hu : Up w w') => rDefinite_any (hm.up hu))
  obtain ⟨px, cx, rfl, -, -⟩ := hx
  obtain ⟨s0, rfl, ⟨p, cap, rfl, -, -⟩, -, -, -⟩ := hm
  obtain ⟨W0, hW0⟩ : ∃ W0, w.alloc (.cells #[.int .i64 N, .slice p l.length cap] 24) = W0 := ⟨_, rfl⟩
  have hB : Blk W0 w.heap.size 24 #[.int .i64 N, .slice p l.length cap] := by rw [← hW0]; exact Blk.new _ _ rfl
  have hU : Up w W0 := by rw [← hW0]; exact Up.alloc _ _
  unfold RExactPost
  rw [show exL N l x = [] from if_neg hC]
  by_cases hF : ftC N l [x] = 0
  · have hD : dfV N l = false := by
      unfold slC at hC
      rw [if_pos hF] at hC
      cases h : dfV N l with
      | false => rfl
      | true => rw [h] at hC; exact absurd rfl hC
    rw [show slC N l x = 30 from by unfold slC; rw [if_pos hF, hD]; rfl]
    rw [hF] at HFi
    rw [hD] at HDf
    clear hF hD hC hI hs
    go_enter Tryz.func27, Tryz.ntmps27
    go_wp2_with (first
      | ((with_reducible apply ldM_P); exact rfl; exact rfl; (first | exact hB | exact hB1); exact rfl)
      | (go_at_call 63; (with_reducible refine (HFi.out _ hU).mono ?_); rintro r w1 ⟨rfl, hu1⟩; have hU1 := hU.trans ((Up.alloc _ _).trans hu1); have hB1 := hB.up ((Up.alloc _ _).trans hu1))
      | (go_at_call 19; (with_reducible refine (HDf.out _ hU1).mono ?_); rintro r w2 ⟨rfl, hu2⟩))
    go_ret2
    exact ⟨_, rfl, hU1.trans hu2, rfv_nil _ _⟩
  · rw [show slC N l x = ftC N l [x] from by unfold slC; rw [if_neg hF]]
    obtain ⟨C, hC2⟩ : ∃ C, ftC N l [x] = C := ⟨_, rfl⟩
    rw [hC2] at HFi hF ⊢
    have d0 : (C != 0) = true := by simpa using hF
    clear hF hC hI hs hC2
    go_enter Tryz.func27, Tryz.ntmps27
    go_wp2_with (first
      | ((with_reducible apply ldM_P); exact rfl; exact rfl; exact hB; exact rfl)
      | (go_at_call 63; (with_reducible refine (HFi.out _ hU).mono ?_); rintro r w1 ⟨rfl, hu1⟩; have hU1 := hU.trans ((Up.alloc _ _).trans hu1)))
    go_ret2
    exact ⟨_, rfl, hU1, rfv_nil _ _⟩
theorem grown_below {w w' : World} {row b : Nat} (hg : w.grownBy w' (some row)) (hb : b ≤ row) (hs : b ≤ w.heap.size) : Below b w w' :=
  ⟨hg.os, hg.tape, hg.output, hg.size, fun k hk => hg.block k (by omega) (fun e => by injection e with e; omega)⟩
theorem run_buildRF (b b' : Bool) (p p' : Option Addr) (m k m' k' : Nat) (w : World) : (Instr.build 77 #[(0, .agg #[.bool b, .slice p m k]), (1, .agg #[.bool b', .slice p' m' k'])]).run Tryz.prog w = .ok (.agg #[.bool b, .slice p m k, .bool b', .slice p' m' k']) w := by kernel_rfl
theorem run_bdRF {o : Oper} {ev : Operand → Value} {x y : Operand} {b b' : Bool} {p p' : Option Addr} {m k m' k' : Nat} (ho : o.op = .build 77 #[(0, x), (1, y)]) (hx : ev x = .agg #[.bool b, .slice p m k]) (hy : ev y = .agg #[.bool b', .slice p' m' k']) (w : World) :
    (execOp ev o).run Tryz.prog w = .ok (.value (.agg #[.bool b, .slice p m k, .bool b', .slice p' m' k'])) w := by
  unfold execOp
  simp only [ho, List.map_toArray, List.map_cons, List.map_nil, hx, hy, Sem.run_bind, run_buildRF, Result.andThen_ok, Sem.run_pure]
def EXR (w : World) (n bP : Nat) (CS : Array Value) (A : Nat → Nat → Int) (t7 : Value) (k : Nat) (wr : World) : Prop :=
  ∃ base G V b0 p0 n0 c0, OwnM wr base t7 n (n + 1) G V ∧ Gj n k (gs A k).2 V ∧ Blk wr w.heap.size 24 CS ∧ Blk wr bP 46 #[.bool b0, .slice p0 n0 c0] ∧ Big wr (.agg #[.bool b0, .slice p0 n0 c0]) (gs A k).1 ∧ Up w wr
theorem RE_AV {n : Nat} (l x : List Int) : ∀ i j, i < n → j < n → RE n l 1 0 i j = AV n l x i j := fun i j hi hj => by
  rw [RE_AM l i j hi hj, AV_AM n l x i j hi hj]
set_option maxHeartbeats 32000000 in
theorem rexact_ok {v xv : Value} {n : Nat} {l x : List Int} {w : World} (hm : Sm w v n l) (hD : Def n l x) (hx : Vw w xv x) (hxl : x.length = n) (hI : In64 x) (hC : slC n l x = 0) :
    Calls Tryz.prog 27 #[v, xv] w (RExactPost w n l x) := by
  have hn := hD.n8
  have hs : x.length ≤ 1000 := by omega
  have HFi := hid (fun w' (hu : Up w w') => rfine_any ((hm.up hu).up (Up.alloc _ _)) (lv_one (hx.up hu)) (fun i => by rcases i with _ | i; exact hI; exact fun j hj => absurd hj (Nat.not_lt_zero _)) (fun i => by rcases i with _ | i; exact hs; exact Nat.zero_le _) (show 1 ≤ 9 by decide))
  have HDf := hid (fun w' (hu : Up w w') => rDefinite_any (hm.up hu))
  have HRW := hid (fun w' (hu : Up w w') => rowsG_any (hm.up hu) hD.right (s := 1) (k := 0) (by unfold I64; omega) (by unfold I64; omega))
  have hF0 : ftC n l [x] = 0 ∧ dfV n l = true := by
    unfold slC at hC
    by_cases h : ftC n l [x] = 0
    · rw [if_pos h] at hC
      cases h2 : dfV n l with
      | true => exact ⟨h, rfl⟩
      | false => rw [h2] at hC; exact absurd hC (by decide)
    · rw [if_neg h] at hC; exact absurd hC h
  rw [hF0.1] at HFi
  rw [hF0.2] at HDf
  have HX := hid (fun i (hi : i < n) w' (hu : Up w w') => show ∃ ad, (∃ px c, xv = .slice (some px) n c ∧ ad = px.add i) ∧ w'.cell? ad = some (.int .i64 (zth x i)) from by
    obtain ⟨p, c, rfl, -, h⟩ := hx
    obtain ⟨a, rfl, h2⟩ := h i (by omega)
    exact ⟨_, ⟨a, c, by rw [hxl], rfl⟩, hu.cellEq h2⟩)
  have HI := hid (fun i (hi : i < n) => hI i (by omega))
  have HO1 := hid (fun w => of_big 1 (by decide) (by decide) w)
  have HDf2 := hid hD
  have HAV := hid (fun i (hi : i < n) => show AV n l x i n = zth x i from by unfold AV; rw [if_pos hi, if_neg (by omega), if_pos rfl])
  have HRE := hid (RE_AV (n := n) l x)
  unfold RExactPost
  rw [hC, show exL n l x = slL n l x from if_pos hC]
  obtain ⟨px, cx, rfl, -, -⟩ := hx
  obtain ⟨s0, rfl, ⟨p, cap, rfl, -, -⟩, -, -, -⟩ := hm
  obtain ⟨W0, hW0⟩ : ∃ W0, w.alloc (.cells #[.int .i64 n, .slice p l.length cap] 24) = W0 := ⟨_, rfl⟩
  have hB : Blk W0 w.heap.size 24 #[.int .i64 n, .slice p l.length cap] := by rw [← hW0]; exact Blk.new _ _ rfl
  have hU : Up w W0 := by rw [← hW0]; exact Up.alloc _ _
  obtain ⟨A, hA⟩ : ∃ A, AV n l x = A := ⟨_, rfl⟩
  rw [hA] at HRE HAV
  have HA := hid hA
  clear hA hF0 hC hD hI hs
  rw [hxl] at *
  go_enter Tryz.func27, Tryz.ntmps27
  go_upto_region 7 with (first
    | ((with_reducible apply ldM_P); exact rfl; exact rfl; (first | exact hB | exact hB1 | exact hB2); exact rfl)
    | (go_at_call 63; (with_reducible refine (HFi.out _ hU).mono ?_); rintro r w1 ⟨rfl, hu1⟩; have hU1 := hU.trans ((Up.alloc _ _).trans hu1); have hB1 := hB.up ((Up.alloc _ _).trans hu1))
    | (go_at_call 19; (with_reducible refine (HDf.out _ hU1).mono ?_); rintro r w2 ⟨rfl, hu2⟩; have hU2 := hU1.trans hu2; have hB2 := hB1.up hu2)
    | (go_at_call 51; (with_reducible refine (HRW.out _ hU2).mono ?_); rintro r w3 ⟨z3, b1, G1, rfl, hu3, hb1, hb2, hO3⟩))
  obtain ⟨pA, cA, rfl⟩ := hO3.slice
  have hO3 := hO3.congr (mf' := fun r => if r < 0 then n + 1 else n) (K := A) (fun i hi => by rw [if_neg (Nat.not_lt_zero _)]) HRE.out
  have hB3 := hB2.up hu3
  have hU3 := hU2.trans hu3
  have hb0 : w.heap.size ≤ b1 := Nat.le_trans hU2.size hb1
  have HBS := hid (show w.heap.size < b1 from Nat.lt_of_lt_of_le hB2.lt hb1)
  have hxl2 := hxl
  clear hu1 hu2 hu3 hU hU1 hU2 hB hB1 hB2 hW0 HFi HDf HRW hb1 HRE hxl
  go_wp2_with fail
  go_loopg [8] n (fun g ti wr => ∃ (i : Nat) (G : Nat → Nat), i ≤ n ∧ n - i ≤ g ∧ ti = .int .i64 (i : Nat) ∧ OwnG wr b1 (.slice pA n cA) n (fun r => if r < i then n + 1 else n) G A ∧ Blk wr w.heap.size 24 #[.int .i64 n, .slice p l.length cap] ∧ Up w wr ∧ b1 ≤ wr.heap.size)
  case atStart => exact ⟨0, G1, Nat.zero_le _, by omega, rfl, hO3, hB3, hU3, hb2⟩
  case round =>
    clear hO3 hB3 hU3 hb2
    obtain ⟨i, G, hi, hig, rfl, hO, hb, hu, hbs⟩ := hrel
    have hcc := hb.cell 0 rfl
    by_cases hlt : i < n
    · have e1 : IntKind.i64.wrap ((i : Int) + 1) = (i : Int) + 1 := IntWalk.i64_in _ (by omega)
      obtain ⟨gA, cA', CA, hvA, hbA, hBA, hEA⟩ := hO.open (by omega)
      injection hvA with x1 _ x3
      subst x1 x3
      obtain ⟨ci, hCi, hOi⟩ := hEA i hlt
      rw [if_neg (Nat.lt_irrefl i)] at hCi hOi
      obtain ⟨mf, hmf⟩ : ∃ mf : Nat → Nat, (fun r => if r < i then n + 1 else n) = mf := ⟨_, rfl⟩
      have HMi : Hid (mf i = n) := hid (by rw [← hmf]; exact if_neg (Nat.lt_irrefl i))
      have HMf : Hid (∀ r, (if r = i then n + 1 else mf r) = if r < i + 1 then n + 1 else n) := hid (fun r => by
        rw [← hmf]
        dsimp only
        by_cases e : r = i
        · rw [if_pos e, if_pos (by omega)]
        · rw [if_neg e]
          by_cases e2 : r < i
          · rw [if_pos e2, if_pos (by omega)]
          · rw [if_neg e2, if_neg (by omega)])
      rw [hmf] at hO
      obtain ⟨adi, ⟨pxx, cxx, exv, rfl⟩, hcv⟩ := HX.out i hlt _ hu
      injection exv with y1 _ y3
      subst y1 y3
      have hei := HI.out i hlt
      have HOf := hid (fun w => of_big (zth x i) hei.1 hei.2 w)
      have HAi := hid (HAV.out i hlt)
      obtain ⟨zi, hzi⟩ : ∃ z, zth x i = z := ⟨_, rfl⟩
      rw [hzi] at hcv HOf HAi
      have HCi := hid hCi
      have HOi := hid hOi
      have HO := hid hO
      have HBA := hid hBA
      have HBb := hid (show b1 ≤ G i from (hOi.blk _ rfl).1)
      have HBg := hid hbA
      have HBs := hid hbs
      clear hmf hei hzi hCi hOi hO hEA hbA hbs
      go_wp2_with fail
      clear hcc
      refine opU (S := (fun wq => Blk wq gA 49 CA ∧ wq.cell? (pxx.add i) = some (.int .i64 zi) ∧ Up wr wq ∧ Below w.heap.size w wq)) (req := (fun j => j != 12 && j != 14)) (fun _ _ h hu => ⟨(h.1).up hu, hu.cell (h.2.1), (h.2.2.1).trans hu, below_up (h.2.2.2) hu⟩) ⟨gBlk, (by first | assumption | (apply Blk.cell; exact gBlk; exact rfl)), (by first | exact Up.refl _ | assumption), gUp⟩ (fun wS hSS hSu => ?_)
      have ⟨hS1, hS2, hS3, hSB⟩ := hSS
      refine tkP 0 (some 35) hSu ?_
      refine tkP 1 (some 36) hSu ?_
      refine tkP 2 (some 37) hSu ?_
      refine tkP 3 (some 38) hSu ?_
      refine tkP 4 (some 39) hSu ?_
      refine tkT 5 (some 40) rfl hSu hSS ?_ (hy := fun w' hSw => by (have hc9 := hSw.1.cell i HCi.out; go_simp; exact rfl))
      refine tkP 6 (some 41) hSu ?_
      refine tkP 7 (some 42) hSu ?_
      refine tkP 8 (some 43) hSu ?_
      refine tkT 9 (some 44) rfl hSu hSS ?_ (hy := fun w' hSw => by (have hc9 := hSw.2.1; go_simp; exact rfl))
      refine wpAnyU_callE (i := 10) (d := (some 45)) rfl rfl (by kernel_rfl) (by rfl) hSu.out (fun w' => by go_simp) (fun w' hw' => (HOf.out w')) fun vO wO hwO hRO => ?_
      try simp only [Act.put, pu1, pu2, pu3]
      obtain ⟨ob, oa, on, oc, rfl⟩ := hRO.shape
      refine wpAnyU_one (i := 11) rfl (by kernel_rfl) (by rfl) fun w11 hw11 => ?_
      refine wp_bsB rfl rfl ?_
      refine ⟨fun _ ⟨h1, h2, h3, h4⟩ => ⟨h1.up (Up.alloc _ _), (Up.alloc _ _).cell h2, h3.trans (Up.alloc _ _), below_up h4 (Up.alloc _ _)⟩, ?_⟩
      try simp only [Act.put]
      refine wpAnyU_one (i := 12) rfl (by kernel_rfl) (by rfl) fun w12 hw12 => ?_
      have gU := ((hS3.trans hwO).trans hw11).trans ((Up.alloc w11 (.cells #[.bool ob, .slice oa on oc] 46)).trans hw12)
      have gz := hRO.up (hw11.trans ((Up.alloc w11 (.cells #[.bool ob, .slice oa on oc] 46)).trans hw12))
      have gB := (Blk.new (w := w11) 46 #[.bool ob, .slice oa on oc] rfl).up hw12
      have gb1 : b1 ≤ w12.heap.size := Nat.le_trans HBs.out gU.size
      refine wp_appRow (base := b1) (l := mk n (A i)) (z := zi) _ _ rfl rfl rfl (HOi.out.up gU) (by rw [mk_len]; omega) (by rw [mk_len]; omega) (bigAt_range0 gB) gz gb1 ?_
      intro g' c' w13 hO13 hg13 hn13
      refine ⟨fun h => by simp at h, ?_⟩
      try simp only [Act.put]
      refine tkP 13 (some 48) hSu ?_
      refine wpAnyU_one (i := 14) rfl (by kernel_rfl) (by rfl) fun w14 hw14 => ?_
      obtain ⟨gP, hfz, ⟨vz, hcz⟩, hgA⟩ := (HO.out.up gU).push hlt gb1 (by rw [HMi.out, HAi.out]; exact hO13) hg13 hn13 hw14
      rw [HMi.out] at gP
      go_simp
      clear hfz hcz
      refine wpAnyU_done (by kernel_rfl) (fun wF huE => ?_) _
      have hgm := grown_below hg13 HBb.out gb1
      have g13 : Up w w13 := Below.trans (hu.trans gU) (Below.mono hgm hb0)
      have gbS := (((hb.up gU).grown hg13 (fun e => by injection e with e; have h1 := HBS.out; have h2 := HBb.out; omega)).up hw14).other ⟨gA, i, none⟩ (.slice (some ⟨g', 0, none⟩) (n + 1) c') (show w.heap.size ≠ gA from by have h1 := HBS.out; omega)
      have gW := Up.trans ((g13.trans hw14).setCell (p := ⟨gA, i, none⟩) (show w.heap.size ≤ gA by omega) (.slice (some ⟨g', 0, none⟩) (n + 1) c')) huE
      have gO2 := (gP.congr (mf' := fun r => if r < i + 1 then n + 1 else n) (K := A) (fun r _ => HMf.out r) (fun _ _ _ _ => rfl)).up huE
      have gs := Nat.le_trans (Nat.le_trans (Nat.le_trans gb1 hgm.size) hw14.size) (show w14.heap.size ≤ _ from by have := huE.size; simp at this; exact this)
      replace gbS := gbS.up huE
      clear gP hS1 hS2 hS3 hSB hSS huE hwO hw11 hw12 hw14 gU gz gB hO13 hg13 hn13 hgm g13 hcv hRO
      go_wp2_with fail
      go_roundg (n - (i + 1))
      case measure => omega
      case rel => exact ⟨i + 1, _, hlt, Nat.le_refl _, rfl, gO2, gbS, gW, gs⟩
    · obtain rfl : n = i := by omega
      have hM := hO.m (m := n + 1) (fun r hr => if_pos hr)
      go_upto_region 12 with (first
        | (go_at_call 37; (with_reducible refine (HO1.out _).mono ?_); rintro r w4 ⟨hu4, v4, rfl, hB4⟩; obtain ⟨b4, a4, n4, c4, rfl⟩ := hB4.shape)
        | ((with_reducible apply stB_P); exact rfl; exact rfl; exact Blk.new _ _ rfl; exact rfl; exact rfl; exact one2 _ _ _ _
           refine wpL_folded (fun wd => Up w4 wd ∧ Blk wd w4.heap.size 46 #[.bool b4, .slice a4 n4 c4] ∧ Big wd (.agg #[.bool b4, .slice a4 n4 c4]) 1) ⟨gUp, gBlk, (hB4.up (Up.alloc _ _)).setRow (Blk.new _ _ rfl)⟩ ?_
           rintro w5 ⟨hu5, hb5, hB5⟩))
      have hu45 := hu4.trans hu5
      have HbP := hid (show w.heap.size < w4.heap.size from Nat.lt_of_lt_of_le hb.lt hu4.size)
      have hEX : EXR w n w4.heap.size #[.int .i64 n, .slice p l.length cap] A (.slice pA n cA) 0 w5 :=
        ⟨_, _, A, _, _, _, _, hM.up hu45, Gj.start, hb.up hu45, hb5, hB5, hu.trans hu45⟩
      obtain ⟨bP, hbP⟩ : ∃ y, w4.heap.size = y := ⟨_, rfl⟩
      rw [hbP] at hEX HbP ⊢
      clear hM hu4 hu5 hb5 hB5 hB4 hu45 hbP hcc hb hu hO hbs HO1 hb0 HBS
      go_wp2_with fail
      go_loopg [7, 10] n (fun g t7 t10 wr => ∃ k : Nat, k ≤ n ∧ n - k ≤ g ∧ t10 = .int .i64 (k : Nat) ∧ EXR w n bP #[.int .i64 n, .slice p l.length cap] A t7 k wr)
      case atStart => exact ⟨0, Nat.zero_le _, by omega, rfl, hEX⟩
      case round =>
        clear hEX
        obtain ⟨k, hk, hkg, rfl, base, G, V, b0, p0, n0, c0, hM, hG, hbS, hbP, hBq, hu⟩ := hrel
        obtain ⟨pB, cB, rfl⟩ := hM.slice
        have hcc := hbS.cell 0 rfl
        by_cases hlk : k < n
        · have e1 : IntKind.i64.wrap ((k : Int) + 1) = (k : Int) + 1 := IntWalk.i64_in _ (by omega)
          have hsv := HDf2.out.sv k (by omega)
          have hlast := fun j => HDf2.out.last hlk j
          rw [HA.out] at hsv
          simp only [HA.out] at hlast
          obtain ⟨q, hq⟩ : ∃ q, (gs A k).1 = q := ⟨_, rfl⟩
          obtain ⟨M, hMM⟩ : ∃ M, (gs A k).2 = M := ⟨_, rfl⟩
          have HN1 := hid (show (gs A (k + 1)).1 = M 0 0 from by rw [← hMM]; rfl)
          have HN2 := hid (show (gs A (k + 1)).2 = nxt q M from by rw [← hMM, ← hq]; rfl)
          rw [HN2.out, hMM] at hlast
          rw [hq] at hsv hBq
          rw [hMM] at hsv hG
          have HQ := hid (show q ≠ 0 ∧ q.natAbs < bp 5 ∧ ∀ i j, (M i j).natAbs < bp 5 from ⟨Int.ne_of_gt hsv.2.1, hsv.2.2, hsv.entry (by omega)⟩)
          have HGn := hid (hG.next hlk hlast)
          have hVM := fun i j (h1 : i < n) (h2 : k ≤ j) (h3 : j ≤ n) => hG i j h1 h2 h3
          have HVb := hid (fun i j (h1 : i < n) (h2 : k ≤ j) (h3 : j ≤ n) => show (V i j).natAbs < bp 5 from by rw [hG i j h1 h2 h3]; exact HQ.out.2.2 _ _)
          have HVk := hid (show V k k = M 0 0 from by rw [hG k k hlk (Nat.le_refl _) (by omega), Nat.sub_self]; unfold ps; rw [if_pos (Nat.le_refl _), Nat.sub_self])
          have HSV := hid (fun i j => show stepV k q V i j = if i = k then V i j else if j ≤ k then (if j = i then V k k else 0) else (V k k * V i j - V i k * V k j).tdiv q from rfl)
          obtain ⟨V', hV'⟩ : ∃ V', stepV k q V = V' := ⟨_, rfl⟩
          rw [hV'] at HGn HSV
          obtain ⟨gA, cA', CA, hvA, -, -, hBA, hEA⟩ := hM.open (by omega)
          injection hvA with x1 _ x3
          subst x1 x3
          have HEA := hid hEA
          have HMa := hid hM
          have HBA := hid hBA
          clear hq hMM hV' hG hVM hlast hsv hM hEA hBA
          go_wp2_with fail
          clear hcc
          obtain ⟨wO, hwO⟩ : ∃ y, wr = y := ⟨_, rfl⟩
          rw [hwO] at HMa HBA hbS hbP hBq hu ⊢
          clear hwO
          have HbS := hid hbS
          have HbPO := hid hbP
          have HBq := hid hBq
          have HuO := hid hu
          clear hbS hbP hBq hu
          go_loopg [11, 12] n (fun g tb ti wr => ∃ (i : Nat) (G' : Nat → Nat), i ≤ n ∧ n - i ≤ g ∧ ti = .int .i64 (i : Nat) ∧ OwnM wr wO.heap.size tb i (n + 1) G' V' ∧ (∀ r, r < i → G' r < wr.heap.size) ∧ Up wO wr)
          case atStart => exact ⟨0, fun _ => 0, Nat.zero_le _, by omega, rfl, OwnM.nil _ _ _ _ _, fun _ hr => absurd hr (Nat.not_lt_zero _), Up.refl _⟩
          case round =>
            obtain ⟨i, G', hi, hig, rfl, hOb, hGs, hu⟩ := hrel
            have HGs := hid hGs
            obtain ⟨pT, cT, rfl⟩ := hOb.slice
            have hcc := (HbS.out.up hu).cell 0 rfl
            clear hGs
            by_cases hlt : i < n
            · have e2 : IntKind.i64.wrap ((i : Int) + 1) = (i : Int) + 1 := IntWalk.i64_in _ (by omega)
              go_wp2_with fail
              clear hcc
              obtain ⟨wI, hwI⟩ : ∃ y, wr = y := ⟨_, rfl⟩
              rw [hwI] at hOb hu HGs ⊢
              clear hwI
              have HOb := hid hOb
              have HuI := hid hu
              clear hOb hu
              go_loopg [13, 14] (n + 1) (fun g tr tj wr => ∃ j : Nat, j ≤ n + 1 ∧ n + 1 - j ≤ g ∧ tj = .int .i64 (j : Nat) ∧ OwnB wr wI.heap.size tr (mk j (V' i)) ∧ Up wI wr)
              case atStart => exact ⟨0, Nat.zero_le _, by omega, rfl, OwnB.nil _ _, Up.refl _⟩
              case round =>
                obtain ⟨j, hj, hjg, rfl, hE, huj⟩ := hrel
                have hUj := HuI.out.trans huj
                have hcc := (HbS.out.up hUj).cell 0 rfl
                have hszj := huj.size
                by_cases hjl : j ≤ n
                · have e3 : IntKind.i64.wrap ((j : Int) + 1) = (j : Int) + 1 := IntWalk.i64_in _ (by omega)
                  have HTk : Hid ((mk j (V' i)).length < 1000000) := hid (by rw [mk_len]; omega)
                  have HT9 := hid (mk_succ j (V' i))
                  have HE := hid hE
                  have HUj := hid hUj
                  have Huj := hid huj
                  have hVij := HSV.out i j
                  clear hE hUj
                  by_cases hik : i = k
                  · rw [if_pos hik] at hVij
                    have HVz := hid hVij
                    obtain ⟨ci, hCi⟩ := HEA.out i hlt
                    have hcx := (HBA.out.up HUj.out).cell i hCi
                    obtain ⟨Ce, be, ae, ne, ce, hBe, -, h1, h2, hbig⟩ := (HMa.out.up HUj.out).entry hlt (show j < n + 1 by omega)
                    have HRe := hid (fun w' (hB : Blk w' (G i) 46 Ce) => bigAt_range hB h1 h2)
                    have dik : ((i : Int) == (k : Int)) = true := by simp; omega
                    have HIK := hid hik
                    clear hik
                    obtain ⟨z, hz⟩ : ∃ z, V i j = z := ⟨_, rfl⟩
                    rw [hz] at HVz hbig
                    clear hVij hCi h1 h2 hz huj
                    go_wp2_with (first
                      | ((with_reducible apply ldB2_P); exact rfl; exact rfl; exact HRe.out _ hBe; done)
                      | ((with_reducible apply ldB2_P); exact rfl; exact rfl; exact HRe.out _ hBe)
                      | ((with_reducible apply bsB_P); exact rfl)
                      | ((with_reducible apply appB (l := mk j (V' i)) (z := z)); exact rfl; exact rfl; exact OwnB.up (Up.alloc _ _) HE.out; exact bigAt_range0 (Blk.new _ _ rfl); exact hbig.up (Up.alloc _ _); (focus (simp; omega)); exact HTk.out; rintro v6 w6 hO6 - hb6))
                    go_roundg (n + 1 - (j + 1))
                    case measure => omega
                    case rel => exact ⟨j + 1, by omega, Nat.le_refl _, rfl, by rw [HT9.out, HVz.out]; exact hO6, Below.trans (Huj.out.trans (Up.alloc _ _)) hb6⟩
                  · rw [if_neg hik] at hVij
                    have dik : ((i : Int) == (k : Int)) = false := by simp; omega
                    by_cases hjk : j ≤ k
                    · rw [if_pos hjk] at hVij
                      by_cases hji : j = i
                      · rw [if_pos hji] at hVij
                        have HVz := hid hVij
                        have dji : ((j : Int) != (i : Int)) = false := by simp; omega
                        have dji2 : ((j : Int) == (i : Int)) = true := by simp; omega
                        have hjk2 : j < k := by omega
                        have HJI := hid hji
                        clear hji
                        obtain ⟨ci, hCi⟩ := HEA.out k hlk
                        have hcx := (HBA.out.up HUj.out).cell k hCi
                        obtain ⟨Ce, be, ae, ne, ce, hBe, -, h1, h2, hbig⟩ := (HMa.out.up HUj.out).entry hlk (show k < n + 1 by omega)
                        have HRe := hid (fun w' (hB : Blk w' (G k) 46 Ce) => bigAt_range hB h1 h2)
                        obtain ⟨z, hz⟩ : ∃ z, V k k = z := ⟨_, rfl⟩
                        rw [hz] at HVz hbig
                        clear hVij hCi h1 h2 hz huj
                        go_wp2_with (first
                          | ((with_reducible apply ldB2_P); exact rfl; exact rfl; exact HRe.out _ hBe)
                          | ((with_reducible apply bsB_P); exact rfl)
                          | ((with_reducible apply appB (l := mk j (V' i)) (z := z)); exact rfl; exact rfl; exact OwnB.up (Up.alloc _ _) HE.out; exact bigAt_range0 (Blk.new _ _ rfl); exact hbig.up (Up.alloc _ _); (focus (simp; omega)); exact HTk.out; rintro v6 w6 hO6 - hb6))
                        go_roundg (n + 1 - (j + 1))
                        case measure => omega
                        case rel => exact ⟨j + 1, by omega, Nat.le_refl _, rfl, by rw [HT9.out, HVz.out]; exact hO6, Below.trans (Huj.out.trans (Up.alloc _ _)) hb6⟩
                      · rw [if_neg hji] at hVij
                        have HVz := hid hVij
                        have dji : ((j : Int) != (i : Int)) = true := by simp; omega
                        clear hVij huj
                        go_wp2_with (first
                          | ((with_reducible apply bsB_P); exact rfl)
                          | ((with_reducible apply appB (l := mk j (V' i)) (z := 0)); exact rfl; exact rfl; exact OwnB.up (Up.alloc _ _) HE.out; exact bigAt_range0 (Blk.new _ _ rfl); exact big_zero _; (focus (simp; omega)); exact HTk.out; rintro v6 w6 hO6 - hb6))
                        go_roundg (n + 1 - (j + 1))
                        case measure => omega
                        case rel => exact ⟨j + 1, by omega, Nat.le_refl _, rfl, by rw [HT9.out, HVz.out]; exact hO6, Below.trans (Huj.out.trans (Up.alloc _ _)) hb6⟩
                    · rw [if_neg hjk] at hVij
                      have HVz := hid hVij
                      have hjk2 : ¬ j < k := by omega
                      have HST := hid (fun w' (hu : Up wO w') => rstep_any (HMa.out.up hu) (HBq.out.up hu) hlk hlt (show k < n + 1 by omega) (show j < n + 1 by omega) hn (by omega) (by decide) HQ.out.1 HQ.out.2.1 (HVb.out k k hlk (Nat.le_refl _) (by omega)) (HVb.out i j hlt (by omega) hjl) (HVb.out i k hlt (Nat.le_refl _) (by omega)) (HVb.out k j hlk (by omega) hjl))
                      obtain ⟨z, hz⟩ : ∃ z, (V k k * V i j - V i k * V k j).tdiv q = z := ⟨_, rfl⟩
                      rw [hz] at HST HVz
                      have hbp := HbPO.out.up HUj.out
                      clear hVij hz huj
                      cases dji : ((j : Int) == (i : Int))
                      all_goals
                        go_wp2_with (first
                          | ((with_reducible apply ldB_P); exact rfl; exact rfl; exact hbp; exact rfl)
                          | (go_at_call 54; (with_reducible refine (HST.out _ HUj.out).mono ?_); rintro r w5 ⟨hu5, v5, rfl, hB5⟩; obtain ⟨b5, a5, n5, c5, rfl⟩ := hB5.shape)
                          | ((with_reducible apply bsB_P); exact rfl)
                          | ((with_reducible apply appB (l := mk j (V' i)) (z := z)); exact rfl; exact rfl; exact OwnB.up (hu5.trans (Up.alloc _ _)) HE.out; exact bigAt_range0 (Blk.new _ _ rfl); exact hB5.up (Up.alloc _ _); (focus (have := hu5.size; simp; omega)); exact HTk.out; rintro v6 w6 hO6 - hb6))
                        go_roundg (n + 1 - (j + 1))
                        case measure => omega
                        case rel => exact ⟨j + 1, by omega, Nat.le_refl _, rfl, by rw [HT9.out, HVz.out]; exact hO6, Below.trans ((Huj.out.trans hu5).trans (Up.alloc _ _)) hb6⟩
                · obtain rfl : j = n + 1 := by omega
                  obtain ⟨pe, ce, rfl⟩ := hE.slice
                  obtain ⟨ge, cge, Ce, hve, hbe, -⟩ := hE.open (by rw [mk_len]; omega)
                  rw [mk_len] at hve
                  injection hve with x1 x2 x3
                  subst x1 x3
                  have hRB := (hE.rowB (by rw [mk_len]; omega)).1
                  have hszu := HuI.out.size
                  have Huj := hid huj
                  rw [mk_len]
                  clear hE huj
                  go_wp2_with (first
                    | ((with_reducible apply appM (b := wI.heap.size) (r := ge) (m := n + 1) (n := i) (V := V') (G := G')); exact rfl; exact rfl; exact OwnM.up (Huj.out.trans (Up.alloc _ _)) HOb.out; exact (Blk.new _ _ rfl).cell 0 rfl; exact hRB.up (Up.alloc _ _); exact HGs.out; exact hbe; exact hszu; (focus (simp; omega)); (focus omega); rintro v6 w6 hO6 hb6 hG6))
                  go_roundg (n - (i + 1))
                  case measure => omega
                  case rel => exact ⟨i + 1, _, hlt, Nat.le_refl _, rfl, hO6, hG6, Below.trans ((HuI.out.trans Huj.out).trans (Up.alloc _ _)) hb6⟩
            · obtain rfl : n = i := by omega
              obtain ⟨ck, hCk⟩ := HEA.out k hlk
              have hcx := (HBA.out.up hu).cell k hCk
              obtain ⟨Ck, bk, ak, nk, dk, hBk, -, h1, h2, hbig⟩ := (HMa.out.up hu).entry hlk (show k < n + 1 by omega)
              have HRk := hid (fun w' (hB : Blk w' (G k) 46 Ck) => bigAt_range hB h1 h2)
              rw [HVk.out] at hbig
              obtain ⟨m0, hm0⟩ : ∃ y, M 0 0 = y := ⟨_, rfl⟩
              rw [hm0] at hbig HN1
              have hbp := HbPO.out.up hu
              have hltp := HbPO.out.lt
              have HGp := hid (fun r (hr : r < n) => show G' r ≠ bP from by obtain ⟨_, _, _, h3, _⟩ := hOb; have := (h3 r hr).1; omega)
              have HOb := hid hOb
              have hbs9 := HbS.out.up hu
              have hUw := HuO.out.trans hu
              have hwP := HbP.out
              clear hCk h1 h2 hm0 hOb hu
              go_wp2_with (first
                | ((with_reducible apply ldB2_P); exact rfl; exact rfl; exact HRk.out _ hBk)
                | ((with_reducible apply stB_P); exact rfl; exact rfl; exact hbp; exact rfl; exact rfl; exact one2 _ _ _ _
                   refine wpL_folded (fun wd => OwnM wd wO.heap.size (.slice pT n cT) n (n + 1) G' V' ∧ Blk wd w.heap.size 24 #[.int .i64 n, .slice p l.length cap] ∧ Blk wd bP 46 #[.bool bk, .slice ak nk dk] ∧ Big wd (.agg #[.bool bk, .slice ak nk dk]) m0 ∧ Up w wd)
                     ⟨HOb.out.otherB hbp _ HGp.out, hbs9.row_other _ (by omega), hbp.setRow _, hbig.setRow hbp, below_setRow hUw (by omega) _⟩ ?_
                   rintro w9 ⟨h9, hs9, hp9, hb9, hu9⟩))
              go_roundg (n - (k + 1))
              case measure => omega
              case rel => exact ⟨k + 1, hlk, Nat.le_refl _, rfl, wO.heap.size, G', V', bk, ak, nk, dk, h9, by rw [HN2.out]; exact HGn.out, hs9, hp9, by rw [HN1.out]; exact hb9, hu9⟩
        · obtain rfl : n = k := by omega
          have HEnd := hid (fun i (hi : i < n) => show V i n = slX n l x i from by rw [hG.end_ hi]; unfold slX; rw [HA.out])
          rw [show (gs A n).1 = slD n l from by rw [← HA.out]; exact HDf2.out.den] at hBq
          have HRv : Hid (∀ (w' : World) (z : Value), RFv w' z (slD n l) (mk n fun i => slX n l x i) → RFv w' z (slD (n : Int).toNat l) (slL n l x)) := hid (fun _ _ h => h)
          obtain ⟨D, hDD⟩ : ∃ D, slD n l = D := ⟨_, rfl⟩
          obtain ⟨X, hXX⟩ : ∃ X : Nat → Int, (fun i => slX n l x i) = X := ⟨_, rfl⟩
          have HXe : Hid (∀ i, i < n → V i n = X i) := hid (fun i hi => by rw [← hXX]; exact HEnd.out i hi)
          rw [hDD] at hBq
          have HRw : Hid (∀ (w' : World) (z : Value), RFv w' z D (mk n X) → RFv w' z (slD (n : Int).toNat l) (slL n l x)) := hid (fun w' z h => HRv.out w' z (by rw [hDD, hXX]; exact h))
          have HMa := hid hM
          have HbS := hid hbS
          have HbP2 := hid hbP
          have HBq := hid hBq
          have HuO := hid hu
          clear hDD hXX HEnd HRv hG hM hbS hbP hBq hu
          go_wp2_with fail
          clear hcc
          obtain ⟨wZ, hwZ⟩ : ∃ y, wr = y := ⟨_, rfl⟩
          rw [hwZ] at HMa HbS HbP2 HBq HuO ⊢
          clear hwZ
          go_loopg [15, 16] n (fun g tz ti wr => ∃ i : Nat, i ≤ n ∧ n - i ≤ g ∧ ti = .int .i64 (i : Nat) ∧ OwnRF wr wZ.heap.size tz D (mk i X) ∧ Up wZ wr)
          case atStart => exact ⟨0, Nat.zero_le _, by omega, rfl, OwnRF.nil _ _ _, Up.refl _⟩
          case round =>
            obtain ⟨i, hi, hig, rfl, hE, hu⟩ := hrel
            have hcc := (HbS.out.up hu).cell 0 rfl
            obtain ⟨pO, cO, rfl⟩ := hE.slice
            by_cases hlt : i < n
            · have e2 : IntKind.i64.wrap ((i : Int) + 1) = (i : Int) + 1 := IntWalk.i64_in _ (by omega)
              obtain ⟨gA, cA', CA, hvA, -, -, hBA, hEA⟩ := HMa.out.open (by omega)
              injection hvA with x1 _ x3
              subst x1 x3
              obtain ⟨ci, hCi⟩ := hEA i hlt
              obtain ⟨Ce, be, ae, ne, ce, hBe, -, h1, h2, hbig⟩ := (HMa.out.up hu).entry hlt (show n < n + 1 by omega)
              have HRe := hid (fun w' (hB : Blk w' (G i) 46 Ce) => bigAt_range hB h1 h2)
              rw [HXe.out i hlt] at hbig
              have HCi := hid hCi
              have hBAr := hBA.up hu
              have hbSr := HbS.out.up hu
              have hbPr := HbP2.out.up hu
              have hBqr := HBq.out.up hu
              have hUw := HuO.out.trans hu
              have HTk : Hid ((mk i X).length < 1000000) := hid (by rw [mk_len]; omega)
              have HT9 := hid (mk_succ i X)
              have HE := hid hE
              have HZs := hid hu.size
              have hnn : (n : Int) < (n : Int) + 1 := by omega
              have Hu := hid hu
              obtain ⟨z, hz⟩ : ∃ z, X i = z := ⟨_, rfl⟩
              rw [hz] at hbig HT9
              clear h1 h2 hz hCi hBA hEA hE hu
              go_wp2_with fail
              clear hcc
              refine opU (S := (fun wq => Blk wq gA 49 CA ∧ Blk wq (G i) 46 Ce ∧ Blk wq w.heap.size 24 #[.int .i64 n, .slice p l.length cap] ∧ Blk wq bP 46 #[.bool b0, .slice p0 n0 c0] ∧ Up wr wq ∧ Below w.heap.size w wq)) (req := (fun j => j != 12)) (fun _ _ h hu => ⟨(h.1).up hu, (h.2.1).up hu, (h.2.2.1).up hu, (h.2.2.2.1).up hu, (h.2.2.2.2.1).trans hu, below_up (h.2.2.2.2.2) hu⟩) ⟨gBlk, gBlk, gBlk, gBlk, (by first | exact Up.refl _ | assumption), gUp⟩ (fun wS hSS hSu => ?_)
              have ⟨hS1, hS2, hS3, hS4, hS5, hSB⟩ := hSS
              refine tkP 0 (some 141) hSu ?_
              refine tkP 1 (some 142) hSu ?_
              refine tkP 2 (some 143) hSu ?_
              refine tkP 3 (some 144) hSu ?_
              refine tkT 4 (some 145) rfl hSu hSS ?_ (hy := fun w' hSw => by (have hc9 := hSw.1.cell i HCi.out; go_simp; exact rfl))
              refine tkP 5 (some 146) hSu ?_
              refine tkT 6 (some 147) rfl hSu hSS ?_ (hy := fun w' hSw => by (have hc9 := hSw.2.2.1.cell 0 rfl; go_simp; exact rfl))
              refine tkP 7 (some 148) hSu ?_
              refine tkT 8 (some 149) rfl hSu hSS ?_ (hy := fun w' hSw => run_ldB2 rfl rfl (HRe.out _ hSw.2.1))
              refine tkT 9 (some 150) rfl hSu hSS ?_ (hy := fun w' hSw => run_ldB rfl rfl hSw.2.2.2.1 rfl)
              refine tkO 10 (some 151) rfl hSu ?_ (hy := fun w' => run_bdRF rfl rfl rfl _)
              refine wpAnyU_one (i := 11) rfl (by kernel_rfl) (by rfl) fun w11 hw11 => ?_
              refine wp_bsRF rfl rfl ?_
              refine ⟨fun _ ⟨h1, h2, h3, h4, h5, h6⟩ => ⟨h1.up (Up.alloc _ _), h2.up (Up.alloc _ _), h3.up (Up.alloc _ _), h4.up (Up.alloc _ _), h5.trans (Up.alloc _ _), below_up h6 (Up.alloc _ _)⟩, ?_⟩
              try simp only [Act.put]
              refine wpAnyU_one (i := 12) rfl (by kernel_rfl) (by rfl) fun w12 hw12 => ?_
              have ga := (Up.alloc w11 (.cells #[.bool be, .slice ae ne ce, .bool b0, .slice p0 n0 c0] 77)).trans hw12
              have gU := (hS5.trans hw11).trans ga
              have gB := (Blk.new (w := w11) 77 #[.bool be, .slice ae ne ce, .bool b0, .slice p0 n0 c0] rfl).up hw12
              refine wp_appRF (base := wZ.heap.size) (l := mk i X) (z := z) (D := D) _ _ rfl rfl rfl (HE.out.up gU) gB (hbig.up gU) (hBqr.up gU) (Nat.le_trans HZs.out gU.size) HTk.out ?_
              intro v13 w13 hO13 hb13
              refine ⟨fun h => by simp at h, ?_⟩
              try simp only [Act.put]
              refine tkP 13 (some 15) hSu ?_
              refine wpAnyU_done (by kernel_rfl) (fun wF huE => ?_) _
              have gO := hO13.up huE
              have gW := Up.trans (Below.trans (Hu.out.trans gU) hb13) huE
              clear hS1 hS2 hS3 hS4 hS5 hSB hSS huE hw11 hw12 ga gU gB hO13 hb13 hBAr hbSr hbPr hBqr hUw
              go_wp2_with fail
              go_roundg (n - (i + 1))
              case measure => omega
              case rel => exact ⟨i + 1, hlt, Nat.le_refl _, rfl, by rw [HT9.out]; exact gO, gW⟩
            · obtain rfl : n = i := by omega
              go_wp2_with fail
              go_ret2
              exact ⟨_, rfl, HuO.out.trans hu, HRw.out _ _ hE.rfv⟩
theorem rexact_any {v xv : Value} {N : Int} {l x : List Int} {w : World} (hm : Sm w v N l) (hx : Vw w xv x) (hI : In64 x) (hs : x.length ≤ 1000) : Calls Tryz.prog 27 #[v, xv] w (RExactPost w N l x) := by
  by_cases hC : slC N l x = 0
  · obtain ⟨n, rfl, hD, hxl⟩ := slC_def hC
    exact rexact_ok hm hD hx hxl hI hC
  · exact rexact_bad hm hx hI hs hC
theorem frAt {w : World} {g i : Nat} {C : Array Value} {b b' : Bool} {a a' : Option Addr} {n c n' c' : Nat} (hB : Blk w g 77 C) (h1 : C[i * 4]? = some (.bool b)) (h2 : C[i * 4 + 1]? = some (.slice a n c)) (h3 : C[i * 4 + 2]? = some (.bool b')) (h4 : C[i * 4 + 3]? = some (.slice a' n' c')) :
    w.rangeAt g (i * 4) [.bool b, .slice a n c] ∧ w.rangeAt g (i * 4 + 2) [.bool b', .slice a' n' c'] ∧ w.rangeAt g (i * 4) [.bool b, .slice a n c, .bool b', .slice a' n' c'] := by
  refine ⟨?_, ?_, ?_⟩ <;> intro j v hv
  · rcases j with _ | _ | j
    · simp at hv; subst hv; exact hB.cell _ h1
    · simp at hv; subst hv; exact hB.cell _ h2
    · simp at hv
  · rcases j with _ | _ | j
    · simp at hv; subst hv; exact hB.cell _ h3
    · simp at hv; subst hv; exact hB.cell _ h4
    · simp at hv
  · rcases j with _ | _ | _ | _ | j
    · simp at hv; subst hv; exact hB.cell _ h1
    · simp at hv; subst hv; exact hB.cell _ h2
    · simp at hv; subst hv; exact hB.cell _ h3
    · simp at hv; subst hv; exact hB.cell _ h4
    · simp at hv
theorem undRF0 : (match Tryz.prog.underlying 77 with | some (.struct _) => true | _ => false) = true := by kernel_rfl
theorem undRF1 : ∃ fs, Tryz.prog.underlying 77 = some (.struct fs) := by
  have h := undRF0
  split at h
  · exact ⟨_, by assumption⟩
  · exact absurd h (by decide)
theorem infoRF1 : (Tryz.prog.info? 77).map (·.size) = some 4 := by kernel_rfl
theorem frAt5 {w : World} {g i : Nat} {C : Array Value} {b b' : Bool} {a a' : Option Addr} {n c n' c' : Nat} (hB : Blk w g 77 C) (h1 : C[i * 4]? = some (.bool b)) (h2 : C[i * 4 + 1]? = some (.slice a n c)) (h3 : C[i * 4 + 2]? = some (.bool b')) (h4 : C[i * 4 + 3]? = some (.slice a' n' c')) :
    w.rangeAt g (i * 4) [.bool b, .slice a n c, .bool b', .slice a' n' c'] := by
  intro j v hv
  rcases j with _ | _ | _ | _ | j
  · simp at hv; subst hv; exact hB.cell _ h1
  · simp at hv; subst hv; exact hB.cell _ h2
  · simp at hv; subst hv; exact hB.cell _ h3
  · simp at hv; subst hv; exact hB.cell _ h4
  · simp at hv
theorem frVar {w : World} {g : Nat} {b b' : Bool} {a a' : Option Addr} {n c n' c' : Nat} (hB : Blk w g 77 #[.bool b, .slice a n c, .bool b', .slice a' n' c']) : w.rangeAt g 0 [.bool b, .slice a n c] ∧ w.rangeAt g 2 [.bool b', .slice a' n' c'] := by
  refine ⟨?_, ?_⟩ <;> intro j v hv <;> rcases j with _ | _ | j <;> simp at hv
  · subst hv; exact hB.cell 0 rfl
  · subst hv; exact hB.cell 1 rfl
  · subst hv; exact hB.cell 2 rfl
  · subst hv; exact hB.cell 3 rfl
theorem run_ldRF {o : Oper} {ev : Operand → Value} {x : Operand} {w : World} {g off : Nat} {b b' : Bool} {a a' : Option Addr} {n c n' c' : Nat} (ho : o.op = .load 77 x) (hx : ev x = .pointer (some ⟨g, off, none⟩)) (hC : w.rangeAt g off [.bool b, .slice a n c, .bool b', .slice a' n' c']) :
    (execOp ev o).run Tryz.prog w = .ok (.value (.agg #[.bool b, .slice a n c, .bool b', .slice a' n' c'])) w := by
  obtain ⟨fs, hfs⟩ := undRF1
  unfold execOp
  simp only [ho, hx, Instr.loadAt, Instr.sureAddr, Sem.run_bind, Sem.run_pure, Result.andThen_ok, run_loadVar_mid w g off _ _ _ hC hfs rfl (by rw [infoRF1]; rfl)]
set_option maxHeartbeats 8000000 in
theorem help_frac {z D : Int} {b b' : Bool} {a a' : Option Addr} {n c n' c' : Nat} {w : World} (h1 : Big w (.agg #[.bool b, .slice a n c]) z) (h2 : Big w (.agg #[.bool b', .slice a' n' c']) D) (bz : z.natAbs < bp 15) (bD : D.natAbs < bp 15) :
    Calls Tryz.prog 35 #[.agg (fA z D), .agg #[.bool b, .slice a n c, .bool b', .slice a' n' c']] w fun r w' => r = .returned (.bool true) ∧ Up w w' := by
  have HW1 := hid (fun w' (hu : Up w w') => help_wide (inR_bp (Nat.le_refl _) bz) (h1.up hu) (nl_bp (by omega) bz))
  have HW2 := hid (fun w' (hu : Up w w') => help_wide (inR_bp (Nat.le_refl _) bD) (h2.up hu) (nl_bp (by omega) bD))
  obtain ⟨W0, hW0⟩ : ∃ x, w.alloc (.cells (fA z D) 73) = x := ⟨_, rfl⟩
  have hB0 : Blk W0 w.heap.size 73 (fA z D) := by rw [← hW0]; exact Blk.new _ _ rfl
  have hU0 : Up w W0 := by rw [← hW0]; exact Up.alloc _ _
  have hs0 : W0.heap.size = w.heap.size + 1 := by rw [← hW0]; simp
  obtain ⟨W1, hW1⟩ : ∃ W1, W0.alloc (.cells #[.bool b, .slice a n c, .bool b', .slice a' n' c'] 77) = W1 := ⟨_, rfl⟩
  have hB1 : Blk W1 (w.heap.size + 1) 77 #[.bool b, .slice a n c, .bool b', .slice a' n' c'] := by rw [← hW1]; exact Blk.new _ _ hs0.symm
  have hU1 : Up W0 W1 := by rw [← hW1]; exact Up.alloc _ _
  have hUw := hU0.trans hU1
  have hb0 := hB0.up hU1
  have hX := hid (fun w' (hB : Blk w' w.heap.size 73 (fA z D)) => show w'.rangeAt w.heap.size 0 (wc z) ∧ w'.rangeAt w.heap.size 16 (wc D) from ⟨fc_num (blkF_range hB), by have := fc_den (blkF_range hB); rwa [Nat.zero_add] at this⟩)
  clear h1 h2 bz bD hB0
  unfold wideV at *
  go_enter Tryz.func35, Tryz.ntmps35
  go_wp2_with (first
    | ((with_reducible apply ldW_P); exact rfl; exact rfl; (first | exact (hX.out _ hb0).1 | exact (hX.out _ (hb0.up hu2)).2))
    | ((with_reducible apply ldB2_P); exact rfl; exact rfl; (first | exact (frVar hB1).1 | exact (frVar (hB1.up hu2)).2))
    | (go_at_call 15; first
        | ((with_reducible refine (HW1.out _ hUw).mono ?_); rintro r w2 ⟨rfl, hu2⟩)
        | ((with_reducible refine (HW2.out _ (hUw.trans hu2)).mono ?_); rintro r w3 ⟨rfl, hu3⟩)))
  go_ret
  exact ⟨rfl, (hUw.trans hu2).trans hu3⟩
set_option maxHeartbeats 8000000 in
theorem help_fracs {vf vr : Value} {D : Int} {l : List Int} {w : World} (hf : Fv w vf D l) (hr : RFv w vr D l) (bz : ∀ i, i < l.length → (zth l i).natAbs < bp 15) (bD : 0 < l.length → D.natAbs < bp 15) (h0 : l.length < 1000000) :
    Calls Tryz.prog 31 #[vf, vr] w fun r w' => r = .returned (.bool true) ∧ Up w w' := by
  rcases Nat.eq_zero_or_pos l.length with hz | hz
  · obtain ⟨p1, c1, rfl⟩ := hf.slice
    obtain ⟨p2, c2, rfl⟩ := hr.slice
    rw [hz]
    clear hf hr bz
    go_enter Tryz.func31, Tryz.ntmps31
    go_wp2_with fail
    go_loopg [5] 1 (fun g ti wr => ti = .int .i64 0 ∧ Up w wr)
    case atStart => exact ⟨rfl, Up.refl _⟩
    case round =>
      obtain ⟨rfl, hu⟩ := hrel
      go_wp2_with fail
      go_ret
      exact ⟨rfl, hu⟩
  · obtain ⟨g1, c1, C1, rfl, -, hB1, ht1⟩ := hf.open hz
    obtain ⟨g2, c2, C2, rfl, -, hB2, hE2⟩ := hr.open hz
    have HT := hid ht1
    have HE := hid hE2
    have HI := hid bz
    have HD := hid (bD hz)
    clear hf hr ht1 hE2 bz bD
    go_enter Tryz.func31, Tryz.ntmps31
    go_wp2_with fail
    go_loopg [5] l.length (fun g ti wr => ∃ i : Nat, i ≤ l.length ∧ l.length - i ≤ g ∧ ti = .int .i64 (i : Nat) ∧ Up w wr)
    case atStart => exact ⟨0, Nat.zero_le _, by omega, rfl, Up.refl _⟩
    case round =>
      obtain ⟨i, hi, hig, rfl, hu⟩ := hrel
      by_cases hlt : i < l.length
      · obtain ⟨b, p, n, c, b', p', n', c', q1, q2, q3, q4, q5, q6⟩ := HE.out i hlt
        have HR1 := hid (fun w' (hB : Blk w' g1 73 C1) => fv_range hB HT.out hlt)
        have HR2 := hid (fun w' (hB : Blk w' g2 77 C2) => frAt5 hB q1 q2 q3 q4)
        have HW := hid (fun w' (hu : Up w w') => help_frac (q5.up hu) (q6.up hu) (HI.out i hlt) HD.out)
        have e1 : IntKind.i64.wrap ((i : Int) + 1) = (i : Int) + 1 := IntWalk.i64_in _ (by omega)
        clear q1 q2 q3 q4 q5 q6
        generalize zth l i = z at *
        go_wp2_with fail
        refine wp_region_sp (n := 27) 10 [17, 18, 19, 20, 21, 22, 23, 24, 25, 26] [SP.is (.slice (some ⟨g1, 0, none⟩) l.length c1), SP.is (.int .i64 (i : Nat)), SP.is (.pointer (some ⟨g1, i * 32, none⟩)), SP.is (.agg (fA z D)), SP.is (.slice (some ⟨g2, 0, none⟩) l.length c2), SP.is (.int .i64 (i : Nat)), SP.is (.pointer (some ⟨g2, i * 4, none⟩)), SP.is (.agg #[.bool b, .slice p n c, .bool b', .slice p' n' c']), SP.is (.bool true), SP.is (.bool false)] (fun wq => Up w wq ∧ Below w.heap.size w wq) (by kernel_rfl) (by rfl) (by kernel_rfl) (by kernel_rfl) (fun _ _ h hu => ⟨(h.1).trans hu, below_up (h.2) hu⟩) ⟨(by first | exact Up.refl _ | assumption), gUp⟩ (fun ev w9 hS9 i o hne hi hev => ?_) (fun gR wE hq hSE huE => ?_)
        · have ⟨hS1, hSB⟩ := hS9
          have hcC := hev.const
          have hcF := hev.func
          have hcG := hev.global
          rcases i with _ | _ | _ | _ | _ | _ | _ | _ | _ | _ | i
          · obtain rfl := Option.some.inj (show some _ = some o from hi)
            have e0 := hev.other 0 (by kernel_rfl)
            simp [Act.eval] at e0
            exact leavesR_value (u := .slice (some ⟨g1, 0, none⟩) l.length c1) (by first | (go_simp; done) | (go_simp; exact rfl)) rfl
          · obtain rfl := Option.some.inj (show some _ = some o from hi)
            have e5 := hev.other 5 (by kernel_rfl)
            simp [Act.eval] at e5
            exact leavesR_value (u := .int .i64 (i : Nat)) (by first | (go_simp; done) | (go_simp; exact rfl)) rfl
          · obtain rfl := Option.some.inj (show some _ = some o from hi)
            have e17 : ev (.tmp 17) = (.slice (some ⟨g1, 0, none⟩) l.length c1) := hev.dep 0 17 (by kernel_rfl)
            have e18 : ev (.tmp 18) = (.int .i64 (i : Nat)) := hev.dep 1 18 (by kernel_rfl)
            exact leavesR_value (u := .pointer (some ⟨g1, i * 32, none⟩)) (by first | (go_simp; done) | (go_simp; exact rfl)) rfl
          · obtain rfl := Option.some.inj (show some _ = some o from hi)
            have e19 : ev (.tmp 19) = (.pointer (some ⟨g1, i * 32, none⟩)) := hev.dep 2 19 (by kernel_rfl)
            exact leavesR_value (run_ldF rfl e19 (HR1.out _ (hB1.up hS1))) rfl
          · obtain rfl := Option.some.inj (show some _ = some o from hi)
            have e1 := hev.other 1 (by kernel_rfl)
            simp [Act.eval] at e1
            exact leavesR_value (u := .slice (some ⟨g2, 0, none⟩) l.length c2) (by first | (go_simp; done) | (go_simp; exact rfl)) rfl
          · obtain rfl := Option.some.inj (show some _ = some o from hi)
            have e5 := hev.other 5 (by kernel_rfl)
            simp [Act.eval] at e5
            exact leavesR_value (u := .int .i64 (i : Nat)) (by first | (go_simp; done) | (go_simp; exact rfl)) rfl
          · obtain rfl := Option.some.inj (show some _ = some o from hi)
            have e21 : ev (.tmp 21) = (.slice (some ⟨g2, 0, none⟩) l.length c2) := hev.dep 4 21 (by kernel_rfl)
            have e22 : ev (.tmp 22) = (.int .i64 (i : Nat)) := hev.dep 5 22 (by kernel_rfl)
            exact leavesR_value (u := .pointer (some ⟨g2, i * 4, none⟩)) (by first | (go_simp; done) | (go_simp; exact rfl)) rfl
          · obtain rfl := Option.some.inj (show some _ = some o from hi)
            have e23 : ev (.tmp 23) = (.pointer (some ⟨g2, i * 4, none⟩)) := hev.dep 6 23 (by kernel_rfl)
            exact leavesR_value (run_ldRF rfl e23 (HR2.out _ (hB2.up hS1))) rfl
          · obtain rfl := Option.some.inj (show some _ = some o from hi)
            have e20 : ev (.tmp 20) = (.agg (fA z D)) := hev.dep 3 20 (by kernel_rfl)
            have e24 : ev (.tmp 24) = (.agg #[.bool b, .slice p n c, .bool b', .slice p' n' c']) := hev.dep 7 24 (by kernel_rfl)
            refine leavesR_call ?_ ((HW.out _ hS1).mono fun _ _ h => ⟨h.2, _, h.1, rfl⟩)
            go_simp
          · obtain rfl := Option.some.inj (show some _ = some o from hi)
            have e25 : ev (.tmp 25) = (.bool true) := hev.dep 8 25 (by kernel_rfl)
            exact leavesR_value (u := .bool false) (by go_simp) rfl
          · exact absurd (show i + 10 < 10 from (Array.getElem?_eq_some_iff.1 hi).1) (by omega)
        have ⟨hS1, hSB⟩ := hSE
        have q0 : gR 17 = (.slice (some ⟨g1, 0, none⟩) l.length c1) := hq 0 17 (by decide) (by kernel_rfl)
        have q1 : gR 18 = (.int .i64 (i : Nat)) := hq 1 18 (by decide) (by kernel_rfl)
        have q2 : gR 19 = (.pointer (some ⟨g1, i * 32, none⟩)) := hq 2 19 (by decide) (by kernel_rfl)
        have q3 : gR 20 = (.agg (fA z D)) := hq 3 20 (by decide) (by kernel_rfl)
        have q4 : gR 21 = (.slice (some ⟨g2, 0, none⟩) l.length c2) := hq 4 21 (by decide) (by kernel_rfl)
        have q5 : gR 22 = (.int .i64 (i : Nat)) := hq 5 22 (by decide) (by kernel_rfl)
        have q6 : gR 23 = (.pointer (some ⟨g2, i * 4, none⟩)) := hq 6 23 (by decide) (by kernel_rfl)
        have q7 : gR 24 = (.agg #[.bool b, .slice p n c, .bool b', .slice p' n' c']) := hq 7 24 (by decide) (by kernel_rfl)
        have q8 : gR 25 = (.bool true) := hq 8 25 (by decide) (by kernel_rfl)
        have q9 : gR 26 = (.bool false) := hq 9 26 (by decide) (by kernel_rfl)
        refine ⟨fun _ => ?_, fun o ho => by simp at ho⟩
        simp only [putL, List.map_cons, List.map_nil, q0, q1, q2, q3, q4, q5, q6, q7, q8, q9, Act.put, pu1, pu2, pu3]
        clear hq hSE q0 q1 q2 q3 q4 q5 q6 q7 q8 q9
        go_wp2_with fail
        go_roundg (l.length - (i + 1))
        case measure => omega
        case rel => exact ⟨i + 1, hlt, Nat.le_refl _, rfl, hS1⟩
      · obtain rfl : i = l.length := by omega
        go_wp2_with fail
        go_ret
        exact ⟨rfl, hu⟩
def MV (w : World) (v : Value) : Prop := ∃ N L, SmO w v N L
def Pair (a0 : Int) (s0 : Value) (w : World) (v : Value) : Prop :=
  ∃ g N1 s1 L1, v = .slice (some ⟨g, 0, none⟩) 2 2 ∧ Blk w g 24 #[.int .i64 a0, s0, .int .i64 N1, s1] ∧ SmO w (.agg #[.int .i64 N1, s1]) N1 L1
def IsRowX (k : IntKind) (w : World) (a : Option Addr) (len cap : Nat) (zs : List Int) : Prop :=
  (a = none ∧ len = 0 ∧ cap = 0 ∧ zs = []) ∨
  ∃ x, a = some x ∧ len ≤ cap ∧ cap ≤ maxLen ∧ zs.length = cap ∧ (∀ i, i < zs.length → w.cell? (x.add i) = some (.int k (zs.getD i 0))) ∧ ∀ n ∈ zs, (Lit.int k n).wf = true
theorem zth_take {l : List Int} {k i : Nat} (h : i < k) : zth (l.take k) i = zth l i := by
  unfold zth
  rw [List.getD_eq_getElem?_getD, List.getD_eq_getElem?_getD, List.getElem?_take_of_lt h]
theorem wf_i64 {z : Int} (h : (Lit.int .i64 z).wf = true) : I64 z := by
  have := (Lit.wf_int_iff .i64 z).1 h
  rw [IntKind.min_i64, IntKind.max_i64] at this
  unfold I64; omega
theorem wf_nat {k : IntKind} {z : Int} {m : Nat} (h : (Lit.int k z).wf = true) (h0 : k.min = 0) (h1 : k.max = (m : Int)) : ∃ n : Nat, z = (n : Int) ∧ n < m + 1 := by
  have := (Lit.wf_int_iff k z).1 h
  rw [h0, h1] at this
  exact ⟨z.toNat, by omega, by omega⟩
theorem vw_row {w : World} {a : Option Addr} {len cap : Nat} {zs : List Int} (h : IsRowX .i64 w a len cap zs) : Vw w (.slice a len cap) (zs.take len) ∧ In64 (zs.take len) := by
  rcases h with ⟨rfl, rfl, rfl, rfl⟩ | ⟨x, rfl, hl, hm, hz, hc, hw⟩
  · exact ⟨⟨none, 0, rfl, ⟨Nat.le_refl _, fun _ => rfl⟩, fun i hi => absurd hi (Nat.not_lt_zero _)⟩, fun i hi => absurd hi (Nat.not_lt_zero _)⟩
  · have e : (zs.take len).length = len := by rw [List.length_take]; omega
    refine ⟨⟨some x, cap, by rw [e], ⟨by rw [e]; exact hl, fun e => by cases e⟩, fun i hi => ⟨x, rfl, ?_⟩⟩, fun i hi => ?_⟩
    · rw [e] at hi
      rw [zth_take hi]
      exact hc i (by omega)
    · rw [e] at hi
      rw [zth_take hi, zth_get (by omega)]
      exact wf_i64 (hw _ (List.getElem_mem _))
theorem vh_row {w : World} {a : Option Addr} {len cap : Nat} {zs : List Int} (h : IsRowX .i16 w a len cap zs) : Vh w (.slice a len cap) (zs.take len) ∧ In16 (zs.take len) := by
  rcases h with ⟨rfl, rfl, rfl, rfl⟩ | ⟨x, rfl, hl, hm, hz, hc, hw⟩
  · exact ⟨⟨none, 0, rfl, fun i hi => absurd hi (Nat.not_lt_zero _)⟩, fun i hi => absurd hi (Nat.not_lt_zero _)⟩
  · have e : (zs.take len).length = len := by rw [List.length_take]; omega
    refine ⟨⟨some x, cap, by rw [e], fun i hi => ⟨x, rfl, ?_⟩⟩, fun i hi => ?_⟩
    · rw [e] at hi
      rw [zth_take hi]
      exact hc i (by omega)
    · rw [e] at hi
      rw [zth_take hi, zth_get (by omega)]
      have := (Lit.wf_int_iff .i16 _).1 (hw (zs[i]'(by omega)) (List.getElem_mem _))
      rw [IntKind.min_i16, IntKind.max_i16] at this
      omega
theorem wp_foldT {P : Program} {c : Code} {Q : Exit → Act → World → Prop} {a : Act} {w : World} (R : World → Prop) (h : R w) (k : ∀ w', R w' → c.wp P Q a w') : c.wp P Q a w := k w h
theorem ex_bounds (N : Int) (l x : List Int) : (exL N l x).length ≤ 8 ∧ (∀ i, i < (exL N l x).length → (zth (exL N l x) i).natAbs < bp 15) ∧ (0 < (exL N l x).length → (slD N.toNat l).natAbs < bp 15) := by
  by_cases h0 : slC N l x = 0
  · obtain ⟨n, rfl, hD, -⟩ := slC_def h0
    have e : exL (n : Int) l x = slL n l x := by unfold exL; rw [if_pos h0]; rfl
    have el : (slL n l x).length = n := mk_len _ _
    rw [e, el]
    refine ⟨hD.n8, fun i hi => ?_, fun _ => Nat.lt_of_lt_of_le hD.den_bp (bp_mono (by decide))⟩
    rw [show zth (slL n l x) i = slX n l x i from mk_at hi]
    exact Nat.lt_of_lt_of_le (hD.num_bp i) (bp_mono (by decide))
  · have e : exL N l x = [] := if_neg h0
    rw [e]
    exact ⟨by decide, fun i hi => absurd hi (Nat.not_lt_zero _), fun h => absurd h (Nat.not_lt_zero _)⟩
theorem ErrsP.iface {B : ByteArray} {w : World} {u : Value} {e : Int} (h : ErrsP B w u e) (h0 : e ≠ 0) : ∃ t x, u = .iface t x := by
  rcases h with ⟨h, -⟩ | ⟨-, t, x, h, -⟩
  · exact absurd h h0
  · exact ⟨t, x, h⟩
theorem unit_set (n a : Nat) : (List.replicate n (0 : Int)).set a 1 = unitL n a := by
  refine zth_ext (by rw [List.length_set, List.length_replicate]; exact (mk_len _ _).symm) fun i hi => ?_
  have hi' : i < n := by rw [List.length_set, List.length_replicate] at hi; exact hi
  unfold unitL
  rw [mk_at hi']
  unfold zth
  rw [List.getD_eq_getElem?_getD, List.getElem?_set]
  by_cases h : a = i
  · subst h
    rw [if_pos rfl, if_pos (by rw [List.length_replicate]; exact hi'), if_pos rfl]; rfl
  · rw [if_neg h, if_neg (fun e => h e.symm), List.getElem?_replicate, if_pos hi']; rfl
theorem unit_in (n a : Nat) : In64 (unitL n a) := fun i hi => by
  have hi' : i < n := by have h : (unitL n a).length = n := mk_len _ _; omega
  unfold unitL
  rw [mk_at hi']
  unfold I64
  split <;> omega
theorem unit_len (n a : Nat) : (unitL n a).length = n := mk_len _ _
def clC (N : Int) (l : List Int) (i : Int) : Int := if rt N l = true then (if 0 ≤ i ∧ i < N then slC N l (unitL N.toNat i.toNat) else 20) else 23
def ColPost (w : World) (N : Int) (l : List Int) (i : Int) (r : Ending) (w' : World) : Prop := ∃ z u, r = .returned (.tuple #[z, u]) ∧ Up w w' ∧ ErrsP solveB w' u (clC N l i) ∧ (clC N l i ≠ 0 → z = .slice none 0 0) ∧ (clC N l i = 0 → Fv w' z (slD N.toNat l) (slL N.toNat l (unitL N.toNat i.toNat)))
theorem lv_nil (w : World) : Lv w (.slice none 0 0) [] := ⟨_, _, rfl, fun i hi => absurd hi (Nat.not_lt_zero i)⟩
theorem ftC_nil (N : Int) (l : List Int) : ftC N l [] = if rt N l = true then 0 else 23 := by
  unfold ftC
  cases rt N l with
  | true =>
    rw [if_pos ⟨rfl, fun i hi => absurd hi (Nat.not_lt_zero i)⟩, if_pos rfl]
    exact if_pos fun i hi => absurd hi (Nat.not_lt_zero i)
  | false => rw [if_neg (by simp), if_neg (by decide)]
set_option maxHeartbeats 16000000 in
theorem column_any {v : Value} {N : Int} {l : List Int} (i : Int) {w : World} (hm : Sm w v N l) (hi : I64 i) :
    Calls Tryz.prog 36 #[v, .int .i64 i] w (ColPost w N l i) := by
  have HF := hid (fun w' (hu : Up w w') => ftC_nil N l ▸ fitting_any (hm.up hu) (lv_nil w') (fun _ j hj => absurd hj (Nat.not_lt_zero j)) (fun _ => Nat.zero_le _) (by simp))
  have HW20 := hid (fun w => swrong_any 20 (by decide) w)
  have HSm := hid hm
  obtain ⟨s, rfl, ⟨p, cap, rfl, -, -⟩, -, -, -⟩ := hm
  obtain ⟨W0, hW0⟩ : ∃ W0, w.alloc (.cells #[.int .i64 N, .slice p l.length cap] 24) = W0 := ⟨_, rfl⟩
  have hB : Blk W0 w.heap.size 24 #[.int .i64 N, .slice p l.length cap] := by rw [← hW0]; exact Blk.new _ _ rfl
  have hU : Up w W0 := by rw [← hW0]; exact Up.alloc _ _
  unfold ColPost
  obtain ⟨C, hC⟩ : ∃ C, clC N l i = C := ⟨_, rfl⟩
  have HC := hid hC
  rw [hC]
  clear hC
  cases hR : rt N l with
  | false =>
    rw [hR, if_neg (by decide)] at HF
    have HC2 : Hid (C = 23) := hid (by rw [← HC.out]; unfold clC; rw [hR]; rfl)
    clear hR hi
    go_enter Tryz.func36, Tryz.ntmps36
    go_upto_region 2 with (first
      | ((with_reducible apply ldM_P); exact rfl; exact rfl; exact hB; exact rfl)
      | (go_at_call 73; (with_reducible refine (HF.out _ hU).mono ?_); rintro r w1 ⟨u1, rfl, hu1, h1⟩))
    obtain ⟨t, y, rfl⟩ := h1.iface (by decide)
    go_wp2_with fail
    go_ret2
    exact ⟨_, _, rfl, hU.trans hu1, by rw [HC2.out]; exact h1, fun _ => rfl, fun h => by rw [HC2.out] at h; omega⟩
  | true =>
    rw [hR, if_pos rfl] at HF
    obtain ⟨n0, n8, -, -⟩ := rt_spec hR
    obtain ⟨n, rfl⟩ : ∃ n : Nat, N = (n : Int) := ⟨N.toNat, by omega⟩
    by_cases hin : 0 ≤ i ∧ i < (n : Int)
    · obtain ⟨a, rfl⟩ : ∃ a : Nat, i = (a : Int) := ⟨i.toNat, by omega⟩
      have ha : a < n := by omega
      have HEx := hid (fun w' (hu : Up w w') (xv : Value) (hx : Vw w' xv (unitL n a)) => exact_any (HSm.out.up hu) hx (unit_in n a) (by rw [unit_len]; omega))
      have HC2 : Hid (C = slC n l (unitL n a)) := hid (by rw [← HC.out]; unfold clC; rw [hR, if_pos rfl, if_pos hin]; rfl)
      have d1 : decide ((a : Int) < 0) = false := decide_eq_false (by omega)
      have d2 : decide ((n : Int) ≤ (a : Int)) = false := decide_eq_false (by omega)
      clear hR hin hi
      go_enter Tryz.func36, Tryz.ntmps36
      go_upto_region 7 with (first
        | ((with_reducible apply ldM_P); exact rfl; exact rfl; exact hB; exact rfl)
        | (go_at_call 73; (with_reducible refine (HF.out _ hU).mono ?_); rintro r w1 ⟨u1, rfl, hu1, h1⟩; obtain rfl := h1.elim (fun h => h.2) (fun h => absurd rfl h.1); have hB1 := hB.up hu1; have hU1 := hU.trans hu1; have hcm := hB1.cell 0 rfl)
        | ((with_reducible apply mkI); exact rfl; (focus omega); (focus omega); rintro g m c w2 hO2 hu2; have hB2 := hB1.up hu2; have hU2 := hU1.trans hu2))
      have hO2' := hO2
      rw [Int.toNat_natCast] at hO2'
      have hml : (List.replicate n (0 : Int)).length = n := List.length_replicate
      obtain ⟨g', cap', C2, hv, hbg, -, -, -, -, -⟩ := hO2'.open (by rw [hml]; omega)
      rw [hml] at hv
      injection hv with x1 x2 x3
      injection x1 with x1
      injection x1 with x1
      have x2' := x2.symm
      subst x1 x2' x3
      obtain ⟨hcW, hfW⟩ := hO2'.cells (k := a) (by rw [hml]; exact ha)
      have hset := hO2'.set (k := a) (by rw [hml]; exact ha) 1
      rw [unit_set] at hset
      have hlt1 := hB1.lt
      have gB := hB2.other ⟨g, a, none⟩ (.int .i64 1) (show w.heap.size ≠ g by omega)
      have gU : Up w (w2.setCell ⟨g, a, none⟩ (.int .i64 1)) := bl_setCell (show w.heap.size ≤ g by omega) hU2
      have HE2 := hid (HEx.out _ gU _ hset.vw)
      unfold ExactPost at HE2
      rw [← HC2.out] at HE2
      obtain ⟨X, hX⟩ : ∃ X, exL n l (unitL n a) = X := ⟨_, rfl⟩
      have HX := hid (show C = 0 → X = slL n l (unitL n a) from fun h => by rw [← hX]; unfold exL; rw [← HC2.out, if_pos h]; rfl)
      rw [hX] at HE2
      have HD : Hid (slD ((n : Nat) : Int).toNat l = slD n l) := hid rfl
      clear hX hO2 hO2' hset hB2 hU2 hml hbg hlt1 hB1 hU1 hu2 hB hcm
      go_wp2_with (first
        | ((with_reducible apply ldM_P); exact rfl; exact rfl; exact gB; exact rfl)
        | (go_at_call 26; (with_reducible refine HE2.out.mono ?_); rintro r w3 ⟨z3, u3, rfl, hu3, hF3, hz3, he3⟩; obtain ⟨p3, c3, rfl⟩ := hF3.slice))
      go_ret2
      exact ⟨.slice p3 X.length c3, _, rfl, gU.trans hu3, he3, hz3, fun h => by rw [HX.out h] at hF3 ⊢; exact hF3⟩
    · have HC2 : Hid (C = 20) := hid (by rw [← HC.out]; unfold clC; rw [hR, if_pos rfl, if_neg hin])
      by_cases h0 : i < 0
      · have d1 : decide (i < 0) = true := decide_eq_true h0
        clear hR hin hi h0
        go_enter Tryz.func36, Tryz.ntmps36
        go_wp2_with (first
          | ((with_reducible apply ldM_P); exact rfl; exact rfl; exact hB; exact rfl)
          | (go_at_call 73; (with_reducible refine (HF.out _ hU).mono ?_); rintro r w1 ⟨u1, rfl, hu1, h1⟩; obtain rfl := h1.elim (fun h => h.2) (fun h => absurd rfl h.1); have hcm := (hB.up hu1).cell 0 rfl)
          | (go_at_call 66; (with_reducible refine (HW20.out _).mono ?_); rintro r w2 ⟨u2, rfl, hu2, h2⟩))
        go_ret2
        exact ⟨_, _, rfl, (hU.trans hu1).trans hu2, by rw [HC2.out]; exact h2, fun _ => rfl, fun h => by rw [HC2.out] at h; omega⟩
      · have d1 : decide (i < 0) = false := decide_eq_false h0
        have d2 : decide ((n : Int) ≤ i) = true := decide_eq_true (by omega)
        clear hR hin hi h0
        go_enter Tryz.func36, Tryz.ntmps36
        go_wp2_with (first
          | ((with_reducible apply ldM_P); exact rfl; exact rfl; exact hB; exact rfl)
          | (go_at_call 73; (with_reducible refine (HF.out _ hU).mono ?_); rintro r w1 ⟨u1, rfl, hu1, h1⟩; obtain rfl := h1.elim (fun h => h.2) (fun h => absurd rfl h.1); have hcm := (hB.up hu1).cell 0 rfl)
          | (go_at_call 66; (with_reducible refine (HW20.out _).mono ?_); rintro r w2 ⟨u2, rfl, hu2, h2⟩))
        go_ret2
        exact ⟨_, _, rfl, (hU.trans hu1).trans hu2, by rw [HC2.out]; exact h2, fun _ => rfl, fun h => by rw [HC2.out] at h; omega⟩
theorem fA_zero : fA 0 0 = #[.int .u64 0, .int .u64 0, .int .u64 0, .int .u64 0, .int .u64 0, .int .u64 0, .int .u64 0, .int .u64 0, .int .u64 0, .int .u64 0, .int .u64 0, .int .u64 0, .int .u64 0, .int .u64 0, .int .u64 0, .int .u64 0, .int .u64 0, .int .u64 0, .int .u64 0, .int .u64 0, .int .u64 0, .int .u64 0, .int .u64 0, .int .u64 0, .int .u64 0, .int .u64 0, .int .u64 0, .int .u64 0, .int .u64 0, .int .u64 0, .int .u64 0, .int .u64 0] := by
  unfold fA
  rw [← zero_limb, ← zeros16]
  rfl
theorem resF {w : World} {fn : Func} {p u : Tmp} (h : fn.results = #[.cell p 73, .tmp u]) (tmps : Array Value) (g : Nat) (hp : tmps.getD p undef = .pointer (some ⟨g, 0, none⟩))
    {z D : Int} (hC : Blk w g 73 (fA z D)) : (results fn tmps).run Tryz.prog w = .ok (.tuple #[.agg (fA z D), tmps.getD u undef]) w := by
  obtain ⟨fs, hu⟩ := undF
  rw [results_cell_tmp h, hp]
  simp only [asAddr, Sem.run_pure, Result.andThen_ok, run_loadVar_row w g _ 73 (fA z D) (0, 0) _ hC hu rfl (by rw [infoF1, fA_size])]
theorem ErrsP.setRowF {B : ByteArray} {w : World} {g : Nat} {C D : Array Value} {u : Value} {e : Int} (h : ErrsP B w u e) (hB : Blk w g 73 C) : ErrsP B (w.setRow g D) u e := by
  rcases h with h | ⟨h1, t, x, rfl, h2⟩
  · exact .inl h
  · refine .inr ⟨h1, t, x, rfl, ?_⟩
    obtain ⟨b, v, e1, e2, e3⟩ := h2
    refine ⟨b, v, e1, e2.row_other _ ?_, e3⟩
    rintro rfl
    unfold Blk at e2 hB
    rw [hB] at e2
    simp at e2
def qdS (h : List Int) (X : Nat → Int) (k : Nat) : Int := sumN k fun i => zth h i * X i
theorem qdS_bp {h : List Int} {X : Nat → Int} (hh : ∀ i, (zth h i).natAbs ≤ 72057594037927936) (hX : ∀ i, (X i).natAbs < bp 5) : ∀ k, k ≤ 8 → (qdS h X k).natAbs < bp 7 ∧ (zth h k * X k).natAbs < bp 6 := by
  have e7 : bp 7 = bp 6 * 18446744073709551616 := bp_succ 6
  have hp : ∀ j, (zth h j * X j).natAbs < bp 6 := fun j => by
    have h1 := hh j
    have h2 := hX j
    have e6 : bp 6 = bp 5 * 18446744073709551616 := bp_succ 5
    rw [Int.natAbs_mul, e6, Nat.mul_comm]
    exact Nat.mul_lt_mul_of_lt_of_lt h2 (by omega)
  have key : ∀ k, (qdS h X k).natAbs ≤ k * bp 6 := by
    intro k
    induction k with
    | zero => exact Nat.zero_le _
    | succ k ih =>
      have h2 := hp k
      have h3 := Int.natAbs_add_le (qdS h X k) (zth h k * X k)
      show (qdS h X k + zth h k * X k).natAbs ≤ _
      rw [Nat.succ_mul]
      omega
  intro k hk
  refine ⟨?_, hp k⟩
  have h1 := key k
  have h2 : k * bp 6 ≤ 8 * bp 6 := Nat.mul_le_mul_right _ hk
  have h3 := bp_pos 6
  omega
def quN (N : Int) (l h : List Int) : Int := if slC N l h = 0 then qdS h (slX N.toNat l h) N.toNat else 0
def quD (N : Int) (l h : List Int) : Int := if slC N l h = 0 then slD N.toNat l else 0
def QuadPost (w : World) (N : Int) (l h : List Int) (r : Ending) (w' : World) : Prop := ∃ u, r = .returned (.tuple #[.agg (fA (quN N l h) (quD N l h)), u]) ∧ Up w w' ∧ ErrsP solveB w' u (slC N l h)
set_option maxHeartbeats 16000000 in
theorem quad_any {v xv : Value} {N : Int} {l x : List Int} {w : World} (hm : Sm w v N l) (hx : Vw w xv x) (hI : In64 x) (hs : x.length ≤ 1000) :
    Calls Tryz.prog 33 #[v, xv] w (QuadPost w N l x) := by
  have HSO := hid (fun w' (hu : Up w w') => solvable_any (hm.up hu) (hx.up hu) hI hs)
  have HSN := hid (fun (n : Nat) (hN : N = (n : Int)) (hD : Def n l x) (hxl : x.length = n) w' (hu : Up w w') => solution_any (hN ▸ hm.up hu) hD (hx.up hu) hxl hI)
  have HI := hid hI
  have HXC := hid (fun w' (hu : Up w w') => Vw.up hu hx)
  obtain ⟨px, cx, rfl, -, -⟩ := hx
  obtain ⟨s, rfl, ⟨p, cap, rfl, -, -⟩, -, -, -⟩ := hm
  obtain ⟨W0, hW0⟩ : ∃ y, (w.alloc (.cells #[.int .i64 N, .slice p l.length cap] 24)).alloc (.cells (fA 0 0) 73) = y := ⟨_, rfl⟩
  have hB : Blk W0 w.heap.size 24 #[.int .i64 N, .slice p l.length cap] := by rw [← hW0]; exact (Blk.new _ _ rfl).old _
  have hQ : Blk W0 (w.heap.size + 1) 73 (fA 0 0) := by rw [← hW0]; exact Blk.new _ _ (by simp)
  have hU : Up w W0 := by rw [← hW0]; exact (Up.alloc _ _).trans (Up.alloc _ _)
  rw [fA_zero] at hW0
  unfold QuadPost
  obtain ⟨C, hC⟩ : ∃ C, slC N l x = C := ⟨_, rfl⟩
  obtain ⟨QN, hQN⟩ : ∃ y, quN N l x = y := ⟨_, rfl⟩
  obtain ⟨QD, hQD⟩ : ∃ y, quD N l x = y := ⟨_, rfl⟩
  have HC := hid hC
  have HQN := hid hQN
  have HQD := hid hQD
  rw [hC] at HSO ⊢
  rw [hQN, hQD]
  clear hC hQN hQD hI hs
  go_enter Tryz.func33, Tryz.ntmps33
  go_upto_region 2 with (first
    | ((with_reducible apply ldM_P); exact rfl; exact rfl; exact hB; exact rfl)
    | (go_at_call 61; (with_reducible refine (HSO.out _ hU).mono ?_); rintro r w1 ⟨u1, rfl, hu1, h1⟩; have hB1 := hB.up hu1; have hU1 := hU.trans hu1; have hQ1 := hQ.up hu1))
  rcases h1 with ⟨h0, rfl⟩ | ⟨h0, t, y, rfl, hE⟩
  · obtain ⟨n, rfl, hD, hxl⟩ := slC_def (HC.out.trans h0)
    have hn8 := hD.n8
    have HN2 : Hid (QN = qdS x (slX n l x) n) := hid (by rw [← HQN.out]; unfold quN; rw [if_pos (HC.out.trans h0)]; rfl)
    have HD2 : Hid (QD = slD n l) := hid (by rw [← HQD.out]; unfold quD; rw [if_pos (HC.out.trans h0)]; rfl)
    have HSN2 := hid (HSN.out n rfl hD hxl)
    rw [hxl] at HSN2 ⊢
    have hln : (slL n l x).length = n := mk_len _ _
    have HLn := hid hln
    have HAt := hid (fun i (hi : i < n) => show zth (slL n l x) i = slX n l x i from mk_at hi)
    have HQb := hid (qdS_bp hD.vec (fun j => hD.num_bp j))
    have HOV := hid (fun i (hi : i < n) w => of_any (zth x i) (HI.out i (by omega)).1 (HI.out i (by omega)).2 w)
    have HXb := hid (fun i => hD.num_bp i)
    have HVb := hid (fun i (hi : i < n) => (HI.out i (by omega) : I64 (zth x i)))
    have HXL := hid hxl
    have H0 := hid h0
    clear HSN hD hxl h0 hln
    obtain ⟨D, hDd⟩ : ∃ D, slD n l = D := ⟨_, rfl⟩
    rw [hDd] at HSN2 HD2
    clear hDd
    unfold wideV at *
    go_wp2_with (first
      | ((with_reducible apply ldM_P); exact rfl; exact rfl; exact hB1; exact rfl)
      | (go_at_call 62; (with_reducible refine (HSN2.out _ hU1).mono ?_); rintro r w2 ⟨z2, b2, rfl, hu2, hb2, hO2⟩; obtain ⟨pz, cz, rfl⟩ := hO2.slice; have hU2 := hU1.trans hu2; have hQ2 := hQ1.up hu2)
      | ((with_reducible apply st_rowP infoW); exact rfl; exact rfl; exact row_newz _ rfl
         refine wpL_folded (fun wd => Up w2 wd ∧ Row wd w2.heap.size 33 16 (limb (enc D))) ⟨gUp, gRow⟩ ?_
         rintro wL ⟨hXL, hDen⟩
         have hO3 := hO2.up hXL
         have hU3 := hU2.trans hXL
         have hQ3 := hQ2.up hXL
         rw [HLn.out]
         obtain ⟨wI, hwI⟩ : ∃ y, wL.alloc (.cells (cells 16 (fun _ => 0)) 33) = y := ⟨_, rfl⟩
         have hG0 : Row wI wL.heap.size 33 16 (limb (enc 0)) := by rw [← hwI]; show Blk _ _ _ (cells 16 (limb (enc 0))); rw [← zero_limb]; exact Blk.new _ _ rfl
         have hUI : Up wL wI := by rw [← hwI]; exact Up.alloc _ _
         rw [← zeros16] at hwI))
    obtain ⟨bG, hbG⟩ : ∃ y, wL.heap.size = y := ⟨_, rfl⟩
    rw [hbG] at hG0 ⊢
    obtain ⟨bD, hbD⟩ : ∃ y, w2.heap.size = y := ⟨_, rfl⟩
    rw [hbD] at hDen ⊢
    have hwB : w.heap.size ≤ wL.heap.size := hU3.size
    have hlQ := hQ3.lt
    have HO3 := hid hO3
    have HXC2 := hid (fun w' (hu : Up wL w') i (hi : i < n) => show ∃ ad, px = some ad ∧ w'.cell? (ad.add i) = some (.int .i64 (zth x i)) from by
      obtain ⟨q', cq', xq, _, hcq⟩ := HXC.out _ (hU3.trans hu)
      injection xq with y1 y2 y3
      subst y1
      obtain ⟨ad, h1, h2⟩ := hcq i (by rw [HXL.out]; exact hi)
      exact ⟨ad, h1, h2⟩)
    clear hbD hO3 hO2 hXL hwI hQ2 hU2 hu2 hb2 hQ1 hU1 hB1 hu1 hW0 hB hQ hU HXC HSO HSN2
    go_wp2_with fail
    go_loopg [27] n (fun g ti wr => ∃ i : Nat, i ≤ n ∧ n - i ≤ g ∧ ti = .int .i64 (i : Nat) ∧ Row wr bG 33 16 (limb (enc (qdS x (slX n l x) i))) ∧ Up wL wr)
    case atStart => exact ⟨0, Nat.zero_le _, by omega, rfl, hG0, hUI⟩
    case round =>
      clear hG0 hUI
      obtain ⟨i, hi, hig, rfl, hG, hu⟩ := hrel
      have hDr := hDen.up hu
      obtain ⟨hs7, hp6⟩ := HQb.out i (by omega)
      by_cases hlt : i < n
      · obtain ⟨gZ, cZ, CZ, hv, -, hBZ, -, -, -, htZ⟩ := HO3.out.open (by rw [HLn.out]; omega)
        rw [HLn.out] at hv
        injection hv with x1 x2 x3
        subst x1 x3
        have HRng := hid (fun w' (hB : Blk w' gZ 33 CZ) => HAt.out i hlt ▸ wv_range hB htZ (by rw [HLn.out]; exact hlt))
        have hBZr := hBZ.up hu
        obtain ⟨ad, rfl, hck⟩ := HXC2.out _ hu i hlt
        have hs72 := (HQb.out (i + 1) (by omega)).1
        have HOf := hid (HOV.out i hlt)
        have hv64 := HVb.out i hlt
        have HTm := hid (fun w => stimes_any (w := w) (inR_bp (k := 1) (by omega) (i64_bp hv64)) (inR_bp (k := 5) (by omega) (HXb.out i)) (inR_bp (k := 6) (by omega) hp6))
        have hqs : qdS x (slX n l x) (i + 1) = qdS x (slX n l x) i + zth x i * slX n l x i := rfl
        have HPl := hid (fun w => splus_any (w := w) (inR_bp (k := 7) (by omega) hs7) (inR_bp (k := 6) (by omega) hp6) (hqs ▸ inR_bp (k := 7) (by omega) hs72))
        have HQs := hid hqs
        have e1 : IntKind.i64.wrap ((i : Int) + 1) = (i : Int) + 1 := IntWalk.i64_in _ (by omega)
        clear hs72 hs7 hp6 hv64 hqs htZ x2 hBZ
        obtain ⟨vi, hvi⟩ : ∃ y, zth x i = y := ⟨_, rfl⟩
        rw [hvi] at hck HOf HTm HPl HQs
        clear hvi
        obtain ⟨xi, hxi⟩ : ∃ y, slX n l x i = y := ⟨_, rfl⟩
        rw [hxi] at HRng HTm HPl HQs
        clear hxi
        obtain ⟨S1, hS1e⟩ : ∃ y, qdS x (slX n l x) i = y := ⟨_, rfl⟩
        rw [hS1e] at hG HPl HQs
        clear hS1e
        obtain ⟨pr, hpr⟩ : ∃ y, vi * xi = y := ⟨_, rfl⟩
        rw [hpr] at HTm HPl HQs
        clear hpr
        obtain ⟨S2, hS2e⟩ : ∃ y, S1 + pr = y := ⟨_, rfl⟩
        rw [hS2e] at HPl HQs
        clear hS2e
        (try unfold wideV at HOf); (try unfold wideV at HTm); (try unfold wideV at HPl)
        go_wp2_with (first
          | ((with_reducible apply ldW_P); exact rfl; exact rfl; exact HRng.out _ hBZr)
          | ((with_reducible apply st_rowP infoW); exact rfl; exact rfl; exact row_newz _ rfl
             refine wpL_folded (fun wd => Up wr wd ∧ Row wd wr.heap.size 33 16 (limb (enc xi))) ⟨gUp, gRow⟩ ?_
             rintro wM ⟨hXM, hNum⟩
             have hckM := hXM.cellEq hck
             have hGM := hG.up hXM))
        refine opU (S := (fun wq => Row wq bG 33 16 (limb (enc S1)) ∧ Row wq wr.heap.size 33 16 (limb (enc xi)) ∧ wq.cell? (ad.add i) = some (.int .i64 vi) ∧ Up wM wq ∧ Below w.heap.size w wq)) (req := (fun j => j != 9)) (fun _ _ h hu => ⟨(h.1).up hu, (h.2.1).up hu, hu.cell (h.2.2.1), (h.2.2.2.1).trans hu, below_up (h.2.2.2.2) hu⟩) ⟨gRow, gRow, (by first | assumption | (apply Blk.cell; exact gBlk; exact rfl)), (by first | exact Up.refl _ | assumption), gUp⟩ (fun wS hSS hSu => ?_)
        have ⟨hS1, hS2, hS3, hS4, hSB⟩ := hSS
        refine tkT 0 (some 32) rfl hSu hSS ?_ (hy := fun w' hSw => run_ld undW infoW _ rfl _ rfl hSw.1)
        refine tkP 1 (some 33) hSu ?_
        refine tkP 2 (some 34) hSu ?_
        refine tkP 3 (some 35) hSu ?_
        refine tkT 4 (some 36) rfl hSu hSS ?_ (hy := fun w' hSw => by ((try dsimp only at hSw); (try obtain ⟨_, _, _, _, _⟩ := hSw); go_simp; (try exact rfl)))
        refine tkC 5 (some 37) rfl hSu hSS ?_ (hy := fun w' hSw => (HOf.out _))
        refine tkT 6 (some 38) rfl hSu hSS ?_ (hy := fun w' hSw => run_ld undW infoW _ rfl _ rfl hSw.2.1)
        refine tkC 7 (some 39) rfl hSu hSS ?_ (hy := fun w' hSw => (HTm.out _))
        refine tkC 8 (some 40) rfl hSu hSS ?_ (hy := fun w' hSw => (HPl.out _))
        refine wpAnyU_one (i := 9) rfl (by kernel_rfl) (by rfl) fun w4 hw4 => ?_
        refine wp_st_rowN infoW rfl _ _ rfl _ rfl rfl ((hS1.up hw4)) ?_
        refine ⟨fun h => by simp at h, ?_⟩
        try simp only [Act.put, pu1, pu2, pu3]
        refine wpAnyU_done (by kernel_rfl) (fun wF huE => ?_) _
        have gG := ((hS1.up hw4).setRow (limb (enc S2))).up huE
        have gU := Up.trans (below_setRow (hu.trans (hXM.trans (hS4.trans hw4))) (show wL.heap.size ≤ bG by omega) (cells 16 (limb (enc S2)))) huE
        clear hS1 hS2 hS3 hS4 hSB hSS hw4 huE
        go_wp2_with fail
        go_roundg (n - (i + 1))
        case measure => omega
        case rel => exact ⟨i + 1, hlt, Nat.le_refl _, rfl, by rw [HQs.out]; exact gG, gU⟩
      · obtain rfl : i = n := by omega
        have hQr := hQ3.up hu
        have hUr := hU3.trans hu
        obtain ⟨S1, hS1e⟩ : ∃ y, qdS x (slX i l x) i = y := ⟨_, rfl⟩
        rw [hS1e] at hG HN2
        clear hS1e hs7 hp6
        go_wp2_with (first
          | ((with_reducible apply ld_rowP undW infoW); exact rfl; exact rfl; exact gRow)
          | ((with_reducible apply bdF_P (z := S1) (D := D)); exact rfl; exact rfl; exact rfl)
          | ((with_reducible apply stF_P (z := S1) (D := D)); exact rfl; exact rfl; exact hQr; exact fA_size 0 0))
        exact bodyPost_ret (resF rfl _ _ rfl (Blk.setRow hQr _)) rfl ⟨.nilIface, by rw [HN2.out, HD2.out]; rfl, below_setRow hUr (by omega) _, .inl ⟨H0.out, rfl⟩⟩
  · have HC2 := hid h0
    have HN2 : Hid (QN = 0) := hid (by rw [← HQN.out]; unfold quN; rw [HC.out]; exact if_neg h0)
    have HD2 : Hid (QD = 0) := hid (by rw [← HQD.out]; unfold quD; rw [HC.out]; exact if_neg h0)
    clear h0
    go_wp2_with (first
      | ((with_reducible apply stF_P (z := 0) (D := 0)); exact rfl; (focus (rw [fA_zero]; exact rfl)); exact hQ1; exact fA_size 0 0))
    exact bodyPost_ret (resF rfl _ _ rfl (Blk.setRow hQ1 _)) rfl ⟨.iface t y, by rw [HN2.out, HD2.out]; rfl, below_setRow hU1 (by omega) _, ErrsP.setRowF (.inr ⟨HC2.out, t, y, rfl, hE⟩) hQ1⟩
structure DI (w : World) (base bR bG bQ n : Nat) (av : Value) (G : Nat → Nat) (gb : Bool) (gp : Option Addr) (gn gc : Nat) (σ : Int) (b0 : Bool) (p0 : Option Addr) (n0 c0 : Nat) (q : Int) (V : Nat → Nat → Int) (wr : World) : Prop where
  m : OwnM wr base av n n G V
  r : Blk wr bR 46 #[.bool false, .slice none 0 0]
  s : Blk wr bG 46 #[.bool gb, .slice gp gn gc]
  z : Big wr (.agg #[.bool gb, .slice gp gn gc]) σ
  p : Blk wr bQ 46 #[.bool b0, .slice p0 n0 c0]
  q : Big wr (.agg #[.bool b0, .slice p0 n0 c0]) q
  u : Up w wr
  g : ∀ i, i < n → bR < G i ∧ G i < bG
  o : bG < bQ ∧ bR < bG ∧ w.heap.size ≤ bR ∧ bR < base
section
variable {w wr wr' : World} {base bR bG bQ n : Nat} {av : Value} {G : Nat → Nat} {gb b0 : Bool} {gp p0 : Option Addr} {gn gc n0 c0 : Nat} {σ q : Int} {V : Nat → Nat → Int}
theorem DI.up (h : DI w base bR bG bQ n av G gb gp gn gc σ b0 p0 n0 c0 q V wr) (hu : Up wr wr') : DI w base bR bG bQ n av G gb gp gn gc σ b0 p0 n0 c0 q V wr' :=
  ⟨h.m.up hu, h.r.up hu, h.s.up hu, h.z.up hu, h.p.up hu, h.q.up hu, h.u.trans hu, h.g, h.o⟩
theorem DI.set (h : DI w base bR bG bQ n av G gb gp gn gc σ b0 p0 n0 c0 q V wr) {i j : Nat} (hi : i < n) (hj : j < n)
    {C : Array Value} (hC : Blk wr (G i) 46 C) {b : Bool} {p : Option Addr} {k c : Nat} {z : Int} (hz : Big wr (.agg #[.bool b, .slice p k c]) z) :
    DI w base bR bG bQ n av G gb gp gn gc σ b0 p0 n0 c0 q (upd2 V i j z) (wr.setRow (G i) (splB C (j * 2) [.bool b, .slice p k c])) := by
  have ⟨g1, g2⟩ := h.g i hi
  have ⟨o1, o2, o3, _⟩ := h.o
  exact ⟨(h.m.set hi hj hC hz).1, Blk.row_other h.r _ (by omega), Blk.row_other h.s _ (by omega), h.z.setRow hC, Blk.row_other h.p _ (by omega), h.q.setRow hC, below_setRow h.u (by omega) _, h.g, h.o⟩
theorem DI.prev (h : DI w base bR bG bQ n av G gb gp gn gc σ b0 p0 n0 c0 q V wr) {b : Bool} {p : Option Addr} {m c : Nat} {z : Int} (hz : Big wr (.agg #[.bool b, .slice p m c]) z) :
    DI w base bR bG bQ n av G gb gp gn gc σ b p m c z V (wr.setRow bQ #[.bool b, .slice p m c]) := by
  have ⟨o1, o2, o3, _⟩ := h.o
  exact ⟨h.m.otherB h.p _ fun i hi => by have := h.g i hi; omega, Blk.row_other h.r _ (by omega), Blk.row_other h.s _ (by omega), h.z.setRow h.p, h.p.setRow _, hz.setRow h.p, below_setRow h.u (by omega) _, h.g, h.o⟩
theorem DI.sign (h : DI w base bR bG bQ n av G gb gp gn gc σ b0 p0 n0 c0 q V wr) {b : Bool} {p : Option Addr} {m c : Nat} {z : Int} (hz : Big wr (.agg #[.bool b, .slice p m c]) z) :
    DI w base bR bG bQ n av G b p m c z b0 p0 n0 c0 q V (wr.setRow bG #[.bool b, .slice p m c]) := by
  have ⟨o1, o2, o3, _⟩ := h.o
  exact ⟨h.m.otherB h.s _ fun i hi => by have := h.g i hi; omega, Blk.row_other h.r _ (by omega), h.s.setRow _, hz.setRow h.s, Blk.row_other h.p _ (by omega), h.q.setRow h.s, below_setRow h.u (by omega) _, h.g, h.o⟩
end
theorem Big.setM {w : World} {g : Nat} {C D : Array Value} {v : Value} {z : Int} (h : Big w v z) (hB : Blk w g 49 C) : Big (w.setRow g D) v z := by
  obtain ⟨a, c, h1, a2, c2, h2, h3, h4⟩ := h
  refine ⟨a, c, h1, a2, c2, h2, h3, fun h0 => ?_⟩
  obtain ⟨b, E, h5, h6, h7⟩ := h4 h0
  refine ⟨b, E, h5, h6.row_other _ fun e => ?_, h7⟩
  subst e
  unfold Blk at hB h6
  rw [hB] at h6
  simp at h6
theorem RowB.setM {w : World} {g p : Nat} {C D : Array Value} {l : List Int} (h : RowB w p l) (hB : Blk w g 49 C) : RowB (w.setRow g D) p l := by
  obtain ⟨E, h1, h2, h3⟩ := h
  refine ⟨E, h1.row_other _ fun e => ?_, h2, fun j hj => ?_⟩
  · subst e
    unfold Blk at hB h1
    rw [hB] at h1
    simp at h1
  · obtain ⟨b, a, n, c, e1, e2, e3⟩ := h3 j hj
    exact ⟨b, a, n, c, e1, e2, e3.setM hB⟩
theorem Blk.setM {w : World} {g p : Nat} {t : TypeId} {C D E : Array Value} (h : Blk w p t E) (hB : Blk w g 49 C) (ht : t ≠ 49) : Blk (w.setRow g D) p t E := by
  refine h.row_other _ fun e => ?_
  subst e
  unfold Blk at hB h
  rw [hB] at h
  simp at h
  exact ht h.2.symm
theorem Blk.setCellEq {w : World} {g i : Nat} {t : TypeId} {C : Array Value} {v : Value} (h : Blk w g t C) : w.setCell ⟨g, i, none⟩ v = w.setRow g (C.setIfInBounds i v) := setCell_eq_setRow w g i C t (0, 0) v h
theorem exch_inj {a b i j : Nat} (h : exch a b i = exch a b j) : i = j := by rw [← exch_back a b i, h, exch_back]
structure DP (w : World) (base bR bG bQ n gA : Nat) (C : Array Value) (G : Nat → Nat) (gb : Bool) (gp : Option Addr) (gn gc : Nat) (σ : Int) (b0 : Bool) (p0 : Option Addr) (n0 c0 : Nat) (q : Int) (V : Nat → Nat → Int) (wr : World) : Prop where
  a : Blk wr gA 49 C
  rws : ∀ i, i < n → base ≤ G i ∧ RowB wr (G i) (mk n (V i))
  r : Blk wr bR 46 #[.bool false, .slice none 0 0]
  s : Blk wr bG 46 #[.bool gb, .slice gp gn gc]
  z : Big wr (.agg #[.bool gb, .slice gp gn gc]) σ
  p : Blk wr bQ 46 #[.bool b0, .slice p0 n0 c0]
  q : Big wr (.agg #[.bool b0, .slice p0 n0 c0]) q
  u : Up w wr
  g : ∀ i, i < n → bR < G i ∧ G i < bG
  o : bG < bQ ∧ bR < bG ∧ w.heap.size ≤ bR ∧ bR < base
  b : base ≤ gA
section
variable {w wr wr' : World} {base bR bG bQ n gA cap : Nat} {C : Array Value} {G : Nat → Nat} {gb b0 : Bool} {gp p0 : Option Addr} {gn gc n0 c0 : Nat} {σ q : Int} {V : Nat → Nat → Int}
theorem DI.parts (h : DI w base bR bG bQ n (.slice (some ⟨gA, 0, none⟩) n cap) G gb gp gn gc σ b0 p0 n0 c0 q V wr) (h0 : 0 < n) :
    ∃ C, DP w base bR bG bQ n gA C G gb gp gn gc σ b0 p0 n0 c0 q V wr ∧ n ≤ cap ∧ cap ≤ maxLen ∧ C.size = cap * 1 ∧ (∀ i, i < n → ∃ c, C[i]? = some (.slice (some ⟨G i, 0, none⟩) n c)) ∧ ∀ i j, i < n → j < n → G i = G j → i = j := by
  obtain ⟨xs, ⟨hx, h1 | ⟨g, cap', cur, hv, hb, hB, hc, hm, hs, ht⟩⟩, h2, h3, h4⟩ := h.m
  · omega
  · injection hv with x1 _ x3
    injection x1 with x1
    injection x1 with x1
    subst x1 x3
    refine ⟨cur, ⟨hB, h3, h.r, h.s, h.z, h.p, h.q, h.u, h.g, h.o, hb⟩, hc, hm, hs, fun i hi => ?_, h4⟩
    obtain ⟨c, h5⟩ := h2 i hi
    rw [← ht, List.getElem?_take_of_lt (by omega), Array.getElem?_toList] at h5
    exact ⟨c, h5⟩
theorem DP.up (h : DP w base bR bG bQ n gA C G gb gp gn gc σ b0 p0 n0 c0 q V wr) (hu : Up wr wr') : DP w base bR bG bQ n gA C G gb gp gn gc σ b0 p0 n0 c0 q V wr' :=
  ⟨h.a.up hu, fun i hi => ⟨(h.rws i hi).1, (h.rws i hi).2.up hu⟩, h.r.up hu, h.s.up hu, h.z.up hu, h.p.up hu, h.q.up hu, h.u.trans hu, h.g, h.o, h.b⟩
theorem DP.setC (h : DP w base bR bG bQ n gA C G gb gp gn gc σ b0 p0 n0 c0 q V wr) (i : Nat) (v : Value) : DP w base bR bG bQ n gA (C.setIfInBounds i v) G gb gp gn gc σ b0 p0 n0 c0 q V (wr.setCell ⟨gA, i, none⟩ v) := by
  have ⟨o1, o2, o3, o4⟩ := h.o
  have hb := h.b
  rw [h.a.setCellEq]
  exact ⟨h.a.setRow _, fun i hi => ⟨(h.rws i hi).1, (h.rws i hi).2.setM h.a⟩, h.r.setM h.a (by decide), h.s.setM h.a (by decide), h.z.setM h.a, h.p.setM h.a (by decide), h.q.setM h.a, below_setRow h.u (by omega) _, h.g, h.o, h.b⟩
theorem DP.swap {i k : Nat} {ci ck : Nat} (h : DP w base bR bG bQ n gA ((C.setIfInBounds i (.slice (some ⟨G k, 0, none⟩) n ck)).setIfInBounds k (.slice (some ⟨G i, 0, none⟩) n ci)) G gb gp gn gc σ b0 p0 n0 c0 q V wr)
    (hi : i < n) (hk : k < n) (hn : n ≤ cap) (hm : cap ≤ maxLen) (hs : C.size = cap * 1) (he : ∀ i, i < n → ∃ c, C[i]? = some (.slice (some ⟨G i, 0, none⟩) n c)) (hj : ∀ i j, i < n → j < n → G i = G j → i = j) :
    DI w base bR bG bQ n (.slice (some ⟨gA, 0, none⟩) n cap) (fun r => G (exch i k r)) gb gp gn gc σ b0 p0 n0 c0 q (fun r => V (exch i k r)) wr := by
  refine ⟨⟨((C.setIfInBounds i (.slice (some ⟨G k, 0, none⟩) n ck)).setIfInBounds k (.slice (some ⟨G i, 0, none⟩) n ci)).toList.take (n * 1), ⟨?_, .inr ⟨gA, cap, _, rfl, h.b, h.a, hn, hm, by simp; omega, rfl⟩⟩, fun r hr => ?_, fun r hr => h.rws _ (exch_lt hi hk hr), fun a b ha hb e => exch_inj (hj _ _ (exch_lt hi hk ha) (exch_lt hi hk hb) e)⟩, h.r, h.s, h.z, h.p, h.q, h.u, fun r hr => h.g _ (exch_lt hi hk hr), h.o⟩
  · rw [List.length_take, Array.length_toList]; simp; omega
  · rw [List.getElem?_take_of_lt (by omega), Array.getElem?_toList, Array.getElem?_setIfInBounds, Array.getElem?_setIfInBounds]
    show ∃ c, _ = some (Value.slice (some ⟨G (exch i k r), 0, none⟩) n c)
    unfold exch
    by_cases e1 : k = r
    · subst e1
      rw [if_pos rfl, if_pos (by simp; omega)]
      by_cases e2 : k = i
      · subst e2; rw [if_pos rfl]; exact ⟨_, rfl⟩
      · rw [if_neg e2, if_pos rfl]; exact ⟨_, rfl⟩
    · rw [if_neg e1]
      by_cases e2 : i = r
      · subst e2; rw [if_pos rfl, if_pos (by omega), if_pos rfl]; exact ⟨_, rfl⟩
      · rw [if_neg e2, if_neg (Ne.symm e2), if_neg (Ne.symm e1)]; exact he r hr
end
theorem wp_fold {P : Program} {c : Code} {Q : Exit → Act → World → Prop} {a : Act} {w : World} (R : World → Prop) (h : R w) (k : ∀ w', R w' → c.wp P Q a w') : c.wp P Q a w := k w h
theorem rneg_big {v : Value} {z : Int} {w : World} (h : Big w v z) : Calls Tryz.prog 53 #[v] w fun r w' => Up w w' ∧ ∃ u, r = .returned u ∧ Big w' u (-z) := by
  obtain ⟨b, a, n, c, rfl, hB⟩ := big_neg h
  exact (neg_any b a n c w).mono fun _ _ hh => ⟨hh.2, _, hh.1, hB.up hh.2⟩
def DR (w : World) (base bR bG bQ n : Nat) (av : Value) (D : Int) (k : Nat) (wr : World) : Prop :=
  ∃ G gb gp gn gc σ b0 p0 n0 c0 q M V, DI w base bR bG bQ n av G gb gp gn gc σ b0 p0 n0 c0 q V wr ∧ Left n k M V ∧ St q k M ∧ Full q (n - k) M (σ * D) ∧ (σ = 1 ∨ σ = -1)
def DR2 (w : World) (base bR bG bQ n : Nat) (av : Value) (D : Int) (k : Nat) (wr : World) : Prop :=
  ∃ G gb gp gn gc σ b0 p0 n0 c0 q M V, DI w base bR bG bQ n av G gb gp gn gc σ b0 p0 n0 c0 q V wr ∧ Left n k M V ∧ St q k M ∧ Full q (n - k) M (σ * D) ∧ (σ = 1 ∨ σ = -1) ∧ M 0 0 ≠ 0
theorem Left.swap {n k p : Nat} {M V : Nat → Nat → Int} (h : Left n k M V) (hk : k < n) (hkp : k ≤ p) (hp : p < n) (hne : p ≠ k) : Left n k (fun i j => M (swp (p - k) i) j) (fun r => V (exch p k r)) := fun r c h1 h2 h3 h4 => by
  show V (exch p k r) c = M (swp (p - k) (r - k)) (c - k)
  unfold exch swp
  by_cases e1 : r = p
  · rw [if_pos e1, if_neg (by omega), if_pos (by omega), h k c (Nat.le_refl _) hk h3 h4, Nat.sub_self]
  · rw [if_neg e1]
    by_cases e2 : r = k
    · rw [if_pos e2, if_pos (by omega), h p c hkp hp h3 h4]
    · rw [if_neg e2, if_neg (by omega), if_neg (by omega), h r c h1 h2 h3 h4]
set_option maxHeartbeats 32000000 in
theorem rdet_any {v : Value} {n : Nat} {l : List Int} {w : World} (hm : Sm w v n l) (hR : rt n l = true) :
    Calls Tryz.prog 16 #[v] w fun r w' => Up w w' ∧ ∃ u, r = .returned u ∧ Big w' u (det n (AM n l)) := by
  have hn : n ≤ 8 := by have := (rt_spec hR).2.1; omega
  have HRW := hid (fun w' (hu : Up w w') => rows_any (hm.up hu) hR (s := 1) (k := 0) (by unfold I64; omega) (by unfold I64; omega))
  have HO1 := hid (fun w => of_big 1 (by decide) (by decide) w)
  have HStA := hid (St.start hR)
  have HSt1 := hid (St.start hR).2.2
  have HFuA := hid (Full.start n (AM n l))
  have HREA := hid (RE_AM (n := n) l)
  obtain ⟨D, hD⟩ : ∃ D, det n (AM n l) = D := ⟨_, rfl⟩
  rw [hD] at HFuA ⊢
  obtain ⟨A, hA⟩ : ∃ A, AM n l = A := ⟨_, rfl⟩
  rw [hA] at HStA HFuA HREA
  obtain ⟨s0, rfl, ⟨p, cap, rfl, -, -⟩, -, -, -⟩ := hm
  obtain ⟨W0, hW0⟩ : ∃ W0, (w.alloc (.cells #[.int .i64 n, .slice p l.length cap] 24)).alloc (.cells #[.bool false, .slice none 0 0] 46) = W0 := ⟨_, rfl⟩
  have hB : Blk W0 w.heap.size 24 #[.int .i64 n, .slice p l.length cap] := by rw [← hW0]; exact (Blk.new _ _ rfl).old _
  have hQ : Blk W0 (w.heap.size + 1) 46 #[.bool false, .slice none 0 0] := by rw [← hW0]; exact Blk.new _ _ (by simp)
  have hU : Up w W0 := by rw [← hW0]; exact (Up.alloc _ _).trans (Up.alloc _ _)
  clear hD hA hR
  go_enter Tryz.func16, Tryz.ntmps16
  go_upto_region 2 with (first
    | ((with_reducible apply ldM_P); exact rfl; exact rfl; exact hB; exact rfl)
    | (go_at_call 51; (with_reducible refine (HRW.out _ hU).mono ?_); rintro r w1 ⟨z1, b1, G1, rfl, hu1, hb1, hb2, hO1⟩))
  have hM := hO1.congr HREA.out
  have hQ1 := hQ.up hu1
  have hU1 := hU.trans hu1
  clear hW0 hB hO1 HREA HRW
  go_wp2_with fail
  refine (HO1.out _).mono ?_
  rintro r w2 ⟨hu2, v2, rfl, hB2⟩
  obtain ⟨b2, a2, n2, c2, rfl⟩ := hB2.shape
  go_wp2_with fail
  refine (HO1.out _).mono ?_
  rintro r w3 ⟨hu3, v3, rfl, hB3⟩
  obtain ⟨b3, a3, n3, c3, rfl⟩ := hB3.shape
  go_upto_region 3 with (first | ((with_reducible apply stB_P); exact rfl; exact rfl; exact gBlk; exact rfl; exact rfl; exact one2 _ _ _ _))
  refine wp_fold (fun wd => Blk wd w3.heap.size 46 #[.bool b2, .slice a2 n2 c2] ∧ Blk wd (w3.heap.size + 1) 46 #[.bool b3, .slice a3 n3 c3] ∧ Big wd (.agg #[.bool b2, .slice a2 n2 c2]) 1 ∧ Big wd (.agg #[.bool b3, .slice a3 n3 c3]) 1 ∧ Up w3 wd) ⟨gBlk, gBlk, (by have hB2 := hB2.up hu3; exact (by (repeat (first | assumption | ((with_reducible apply big_set); exact gBlk) | (with_reducible apply big_alloc) | ((with_reducible apply big_up); assumption))); done)), (by (repeat (first | assumption | ((with_reducible apply big_set); exact gBlk) | (with_reducible apply big_alloc) | ((with_reducible apply big_up); assumption))); done), gUp⟩ (fun w4 hD4 => ?_)
  obtain ⟨hG4, hQ4, hz4, hq4, hu4⟩ := hD4
  have hz3 := hu3.size
  have hz2 := hu2.size
  have hz1 := hu1.size
  have hq1 := hQ1.lt
  have hU34 := (hu2.trans hu3).trans hu4
  have hs0 : w.heap.size + 2 ≤ b1 := by have := hQ.lt; omega
  obtain ⟨pA, cA, rfl⟩ := hM.slice
  have hDI : DI w b1 (w.heap.size + 1) w3.heap.size (w3.heap.size + 1) n (.slice pA n cA) G1 b2 a2 n2 c2 1 b3 a3 n3 c3 1 A w4 :=
    ⟨hM.up hU34, hQ1.up hU34, hG4, hz4, hQ4, hq4, hU1.trans hU34, fun i hi => by obtain ⟨_, _, _, h3, _⟩ := hM; have ⟨x1, x2⟩ := h3 i hi; have x3 := x2.lt; omega, by omega, by omega, by omega, by omega⟩
  obtain ⟨bG, hbG⟩ : ∃ y, w3.heap.size = y := ⟨_, rfl⟩
  obtain ⟨bR, hbR⟩ : ∃ y, w.heap.size + 1 = y := ⟨_, rfl⟩
  rw [hbG, hbR] at hDI ⊢
  have hDR : DR w b1 bR bG (bG + 1) n (.slice pA n cA) D 0 w4 :=
    ⟨_, _, _, _, _, _, _, _, _, _, _, A, A, hDI, Left.start fun _ _ _ _ => rfl, HStA.out, by rw [Nat.sub_zero, Int.one_mul]; exact HFuA.out, .inl rfl⟩
  have HO2 := hid (fun w v (h : Big w v 0) => rsign_big h)
  clear hu1 hu2 hu3 hu4 hU34 hz1 hz2 hz3 hq1 hs0 hM hQ hQ1 hU1 hU hB2 hB3 hG4 hQ4 hz4 hq4 hDI HStA HFuA HO1 HO2 hb1 hb2 hbG hbR
  go_wp2_with fail
  go_loopg [6] n (fun g t6 wr => ∃ k : Nat, k ≤ n ∧ n - k ≤ g ∧ t6 = .int .i64 (k : Nat) ∧ DR w b1 bR bG (bG + 1) n (.slice pA n cA) D k wr)
  case atStart => exact ⟨0, Nat.zero_le _, by omega, rfl, hDR⟩
  case round =>
    clear hDR
    obtain ⟨k, hk, hkg, rfl, G, gb, gp, gn, gc, σ, b0, p0, n0, c0, q, M, V, hDI, hL, hSt, hFu, hσ⟩ := hrel
    have HL := hid hL
    have HSt := hid hSt
    have HFu := hid hFu
    have HSg := hid hσ
    have HDI := hid hDI
    clear hL hSt hFu hσ hDI
    by_cases hlt : k < n
    · obtain ⟨s, hs⟩ : ∃ s, n - k = s + 1 := ⟨n - k - 1, by omega⟩
      have e1 : IntKind.i64.wrap ((k : Int) + 1) = (k : Int) + 1 := IntWalk.i64_in _ (by omega)
      obtain ⟨gA, cA', CA, hvA, -, hcA, hBA, hEA⟩ := HDI.out.m.open (by omega)
      injection hvA with x1 _ x3
      subst x1 x3
      go_wp2_with fail
      clear hBA hEA hcA
      obtain ⟨wA, hwA⟩ : ∃ y, wr = y := ⟨_, rfl⟩
      rw [hwA] at HDI ⊢
      clear hwA
      go_loopg [7] n (fun g t7 wz => ∃ p : Nat, k ≤ p ∧ p ≤ n ∧ n - p ≤ g ∧ t7 = .int .i64 (p : Nat) ∧ (∀ r, k ≤ r → r < p → V r k = 0) ∧ Up wA wz)
      case atStart => exact ⟨k, Nat.le_refl _, hk, by omega, rfl, fun r h1 h2 => by omega, Up.refl _⟩
      case round =>
        obtain ⟨p, hkp, hp, hpg, rfl, hz, hu⟩ := hrel
        have HZ := hid hz
        have HU := hid hu
        have hDIz := HDI.out.up hu
        clear hz hu
        by_cases hpn : p < n
        · obtain ⟨gB, cB, CB, hvB, -, -, hBB, hEB⟩ := hDIz.m.open (by omega)
          injection hvB with x1 _ x3
          injection x1 with x1
          injection x1 with x1
          subst x1 x3
          obtain ⟨cp, hCp⟩ := hEB p hpn
          have hcx := hBB.cell p hCp
          obtain ⟨Cp, bp', ap, np, dp, hBp, -, h1, h2, hbig⟩ := hDIz.m.entry hpn hlt
          have HRp := hid (fun w' (hB : Blk w' (G p) 46 Cp) => bigAt_range hB h1 h2)
          have HSn := hid (fun w v (h : Big w v (V p k)) => rsign_big h)
          have e2 : IntKind.i64.wrap ((p : Int) + 1) = (p : Int) + 1 := IntWalk.i64_in _ (by omega)
          have HDz := hid hDIz
          clear hCp h1 h2 hEB hBB hDIz
          by_cases h0 : V p k = 0
          · have HZ2 := hid (fun r (h1 : k ≤ r) (h2 : r < p + 1) => show V r k = 0 from by
              by_cases e : r = p
              · rw [e]; exact h0
              · exact HZ.out r h1 (by omega))
            have dz : (sgn (V p k) == 0) = true := by rw [h0]; rfl
            obtain ⟨y, hy⟩ : ∃ y, V p k = y := ⟨_, rfl⟩
            rw [hy] at hbig HSn dz
            clear hy h0
            go_wp2_with (first
              | ((with_reducible apply ldB2_P); exact rfl; exact rfl; exact HRp.out _ hBp)
              | (go_at_call 52; (with_reducible refine (HSn.out _ _ hbig).mono ?_); rintro r w7 ⟨rfl, hu7⟩))
            go_roundg (n - (p + 1))
            case measure => omega
            case rel => exact ⟨p + 1, by omega, hpn, Nat.le_refl _, rfl, HZ2.out, HU.out.trans hu7⟩
          · have hp0 : M (p - k) 0 ≠ 0 := by have h := HL.out p k hkp hpn (Nat.le_refl _) hlt; rw [Nat.sub_self] at h; rw [← h]; exact h0
            have dz : (sgn (V p k) == 0) = false := by unfold sgn; split <;> (try split) <;> first | rfl | (exfalso; omega)
            have dpn : ((p : Int) == (n : Int)) = false := by simp; omega
            obtain ⟨y, hy⟩ : ∃ y, V p k = y := ⟨_, rfl⟩
            rw [hy] at hbig HSn dz
            have HP0 := hid hp0
            clear hy h0 hp0
            go_upto_if 45 with (first
              | ((with_reducible apply ldB2_P); exact rfl; exact rfl; exact HRp.out _ hBp)
              | (go_at_call 52; (with_reducible refine (HSn.out _ _ hbig).mono ?_); rintro r w7 ⟨rfl, hu7⟩))
            have hD7 := HDz.out.up hu7
            have HU7 := hid (HU.out.trans hu7)
            clear hu7 hcx hbig hBp HRp HSn dz dpn HDz HZ
            go_cut [7] (fun _ wc => DR2 w b1 bR bG (bG + 1) n (.slice (some ⟨gA, 0, none⟩) n cA) D k wc)
            case first =>
              by_cases hpk : p = k
              · subst hpk
                have d : ((p : Int) != (p : Int)) = false := by simp
                go_wp2_with fail
                go_meet
                exact ⟨_, _, _, _, _, _, _, _, _, _, _, _, _, hD7, HL.out, HSt.out, HFu.out, HSg.out, by have h := HP0.out; rwa [Nat.sub_self] at h⟩
              · have d : ((p : Int) != (k : Int)) = true := by simp; omega
                have hLS := HL.out.swap hlt hkp hpn hpk
                have hFS : Full q (n - k) (fun i j => M (swp (p - k) i) j) (-σ * D) := by
                  have h := HFu.out.swap (k := p - k) (by omega) (by omega) (by omega)
                  rwa [Int.neg_mul]
                have hGS : St q k (fun i j => M (swp (p - k) i) j) := ⟨HSt.out.1.swap _, HSt.out.2⟩
                have HNg := hid (fun w v (h : Big w v σ) => rneg_big h)
                have HS := hid (show Left n k (fun i j => M (swp (p - k) i) j) (fun r => V (exch p k r)) ∧ Full q (n - k) (fun i j => M (swp (p - k) i) j) (-σ * D) ∧ St q k (fun i j => M (swp (p - k) i) j) ∧ (-σ = 1 ∨ -σ = -1) from ⟨hLS, hFS, hGS, by have := HSg.out; omega⟩)
                obtain ⟨C, hDP, hx1, hx2, hx3, hx4, hx5⟩ := hD7.parts (by omega)
                have HX := hid (And.intro hx1 (And.intro hx2 (And.intro hx3 (And.intro hx4 hx5))))
                obtain ⟨ck, hCk⟩ := hx4 k hlt
                obtain ⟨ci, hCp⟩ := hx4 p hpn
                have hkk := hDP.a.cell k hCk
                have hpp := hDP.a.cell p hCp
                have HCp := hid hCp
                have HCk := hid hCk
                have HDP := hid hDP
                have hUw := hD7.u
                clear hLS hFS hGS hD7 hDP hx1 hx2 hx3 hx4 hx5 hCk hCp
                go_upto_region 12 with fail
                refine opU (S := (fun wq => wq.cell? ⟨gA, k, none⟩ = some (.slice (some ⟨G k, 0, none⟩) n ck) ∧ wq.cell? ⟨gA, p, none⟩ = some (.slice (some ⟨G p, 0, none⟩) n ci) ∧ Up w7 wq ∧ Below w.heap.size w wq)) (req := (fun j => j != 13 && j != 15)) (fun _ _ h hu => ⟨hu.cell (h.1), hu.cell (h.2.1), (h.2.2.1).trans hu, below_up (h.2.2.2) hu⟩) ⟨(by first | assumption | (apply Blk.cell; exact gBlk; exact rfl)), (by first | assumption | (apply Blk.cell; exact gBlk; exact rfl)), (by first | exact Up.refl _ | assumption), gUp⟩ (fun wS hSS hSu => ?_)
                have ⟨hS1, hS2, hS3, hSB⟩ := hSS
                refine tkP 0 (some 46) hSu ?_
                refine tkP 1 (some 47) hSu ?_
                refine tkP 2 (some 48) hSu ?_
                refine tkP 3 (some 49) hSu ?_
                refine tkP 4 (some 50) hSu ?_
                refine tkP 5 (some 51) hSu ?_
                refine tkP 6 (some 52) hSu ?_
                refine tkT 7 (some 53) rfl hSu hSS ?_ (hy := fun w' hSw => by (have hc9 := hSw.1; go_simp; exact rfl))
                refine tkP 8 (some 54) hSu ?_
                refine tkP 9 (some 55) hSu ?_
                refine tkP 10 (some 56) hSu ?_
                refine tkT 11 (some 57) rfl hSu hSS ?_ (hy := fun w' hSw => by (have hc9 := hSw.2.1; go_simp; exact rfl))
                refine tkP 12 (some 58) hSu ?_
                refine wpAnyU_one (i := 13) rfl (by kernel_rfl) (by rfl) fun wX hwX => ?_
                have gp := HDP.out.up (hS3.trans hwX)
                have hcW := gp.a.cell p HCp.out
                have hfW := gp.a.frozen p
                go_simp
                clear hcW hfW
                replace gp := gp.setC p (.slice (some ⟨G k, 0, none⟩) n ck)
                refine tkP 14 (some 59) hSu ?_
                refine wpAnyU_one (i := 15) rfl (by kernel_rfl) (by rfl) fun wY hwY => ?_
                replace gp := gp.up hwY
                obtain ⟨vk, hvk⟩ : ∃ vk, (C.setIfInBounds p (.slice (some ⟨G k, 0, none⟩) n ck))[k]? = some vk := by
                  rw [Array.getElem?_setIfInBounds, if_neg hpk]; exact ⟨_, HCk.out⟩
                have hcW := gp.a.cell k hvk
                have hfW := gp.a.frozen k
                go_simp
                clear hcW hfW hvk
                replace gp := gp.setC k (.slice (some ⟨G p, 0, none⟩) n ci)
                refine wpAnyU_done (by kernel_rfl) (fun wF huE => ?_) _
                replace gp := gp.up huE
                have hDS := gp.swap hpn hlt HX.out.1 HX.out.2.1 HX.out.2.2.1 HX.out.2.2.2.1 HX.out.2.2.2.2
                clear gp hS1 hS2 hS3 hSB hSS huE hwX hwY hkk hpp HDP HX
                go_wp2_with (first
                  | ((with_reducible apply ldB_P); exact rfl; exact rfl; exact hDS.s; exact rfl)
                  | (go_at_call 53; (with_reducible refine (HNg.out _ _ hDS.z).mono ?_); rintro r w8 ⟨hu8, v8, rfl, hB8⟩; obtain ⟨b8, a8, n8, c8, rfl⟩ := hB8.shape)
                  | ((with_reducible apply stB_P); exact rfl; exact rfl; exact (hDS.up hu8).s; exact rfl; exact rfl; exact one2 _ _ _ _
                     refine wpL_folded (fun wd => DI w b1 bR bG (bG + 1) n (.slice (some ⟨gA, 0, none⟩) n cA) (fun r => G (exch p k r)) b8 a8 n8 c8 (-σ) b0 p0 n0 c0 q (fun r => V (exch p k r)) wd) ((hDS.up hu8).sign hB8) ?_
                     rintro w9 h9))
                go_meet
                exact ⟨_, _, _, _, _, _, _, _, _, _, _, _, _, h9, HS.out.1, HS.out.2.2.1, HS.out.2.1, HS.out.2.2.2, by have h := HP0.out; show M (swp (p - k) 0) 0 ≠ 0; unfold swp; rw [if_pos rfl]; exact h⟩
            case rest =>
              obtain ⟨G, gb, gp, gn, gc, σ, b0, p0, n0, c0, q, M, V, hDI, hL, hSt, hFu, hσ, hm0⟩ := hcut
              have HL := hid hL
              have HSt := hid hSt
              have HFu := hid hFu
              have HSg := hid hσ
              have HM0 := hid hm0
              have HQ := hid (show q ≠ 0 ∧ q.natAbs < bp 5 ∧ ∀ i j, (M i j).natAbs < bp 5 from ⟨hSt.2.1, hSt.2.2, hSt.entry (by omega)⟩)
              clear hL hSt hFu hσ hm0 hD7
              go_wp2_with fail
              go_loopg [8] n (fun g ti wr => ∃ (i : Nat) (V1 : Nat → Nat → Int), k + 1 ≤ i ∧ i ≤ n ∧ n - i ≤ g ∧ ti = .int .i64 (i : Nat) ∧ At1 n k q M i (k + 1) V1 ∧ DI w b1 bR bG (bG + 1) n (.slice (some ⟨gA, 0, none⟩) n cA) G gb gp gn gc σ b0 p0 n0 c0 q V1 wr)
              case atStart => exact ⟨k + 1, V, Nat.le_refl _, hlt, by omega, rfl, At1.start HL.out, hDI⟩
              case round =>
                clear hDI
                obtain ⟨i, V1, hki, hi, hig, rfl, hAt, hMI⟩ := hrel
                have HAt := hid hAt
                have HMI := hid hMI
                clear hAt hMI
                by_cases hil : i < n
                · have e2 : IntKind.i64.wrap ((i : Int) + 1) = (i : Int) + 1 := IntWalk.i64_in _ (by omega)
                  go_wp2_with fail
                  obtain ⟨wO, hwO⟩ : ∃ y, wr = y := ⟨_, rfl⟩
                  rw [hwO] at HMI ⊢
                  clear hwO
                  go_loopg [9] n (fun g tj wr => ∃ (j : Nat) (V1 : Nat → Nat → Int), k + 1 ≤ j ∧ j ≤ n ∧ n - j ≤ g ∧ tj = .int .i64 (j : Nat) ∧ At1 n k q M i j V1 ∧ DI w b1 bR bG (bG + 1) n (.slice (some ⟨gA, 0, none⟩) n cA) G gb gp gn gc σ b0 p0 n0 c0 q V1 wr)
                  case atStart => exact ⟨k + 1, V1, Nat.le_refl _, hlt, by omega, rfl, HAt.out, HMI.out⟩
                  case round =>
                    clear HAt HMI
                    obtain ⟨j, V2, hkj, hj, hjg, rfl, hAt, hMI⟩ := hrel
                    by_cases hjl : j < n
                    · have e3 : IntKind.i64.wrap ((j : Int) + 1) = (j : Int) + 1 := IntWalk.i64_in _ (by omega)
                      obtain ⟨gB, cB, CB, hvB, -, -, hBB, hEB⟩ := hMI.m.open (by omega)
                      injection hvB with x1 _ x3
                      injection x1 with x1
                      injection x1 with x1
                      subst x1 x3
                      obtain ⟨ci, hCi⟩ := hEB i hil
                      have HCi := hid (fun w' (hu : Up wr w') => (hBB.up hu).cell i hCi)
                      obtain ⟨Ci, bi, ai, ni, di, hBi, hsz, -, -, -⟩ := hMI.m.entry hil hjl
                      have hst := hAt.step hki hil hkj hjl
                      have f1 := HQ.out.2.2 (k - k) (k - k)
                      have f2 := HQ.out.2.2 (i - k) (j - k)
                      have f3 := HQ.out.2.2 (i - k) (k - k)
                      have f4 := HQ.out.2.2 (k - k) (j - k)
                      rw [← hAt.old (r := k) (c := k) (by omega) (by omega) (by omega) (by omega) (by omega)] at f1
                      rw [← hAt.old (r := i) (c := j) (by omega) (by omega) (by omega) (by omega) (by omega)] at f2
                      rw [← hAt.old (r := i) (c := k) (by omega) (by omega) (by omega) (by omega) (by omega)] at f3
                      rw [← hAt.old (r := k) (c := j) (by omega) (by omega) (by omega) (by omega) (by omega)] at f4
                      have HST := hid (fun w' (hu : Up wr w') => hst ▸ rstep_any (hMI.m.up hu) (hMI.q.up hu) hlt hil hlt hjl hn (by omega) (by decide) HQ.out.1 HQ.out.2.1 f1 f2 f3 f4)
                      have HSet := hid (hAt.set hki hkj)
                      obtain ⟨z, hz⟩ : ∃ z, nxt q M (i - (k + 1)) (j - (k + 1)) = z := ⟨_, rfl⟩
                      rw [hz] at HST HSet
                      have hUw := hMI.u
                      have HMI := hid hMI
                      clear hz hst f1 f2 f3 f4 hAt hMI hEB hCi hBB
                      go_wp2_with fail
                      refine wp_region_sp (n := 100) 12 [78, 79, 80, 81, 82, 83, 84, 85, 86, 87, 88, 89] [SP.is (.slice (some ⟨gA, 0, none⟩) n cA), SP.is (.int .i64 (i : Nat)), SP.is (.pointer (some ⟨gA, i, none⟩)), SP.is (.slice (some ⟨G i, 0, none⟩) n ci), SP.is (.int .i64 (j : Nat)), SP.is (.slice (some ⟨gA, 0, none⟩) n cA), SP.is (.int .i64 (k : Nat)), SP.is (.int .i64 (i : Nat)), SP.is (.int .i64 (j : Nat)), SP.is (.agg #[.bool b0, .slice p0 n0 c0]), SP.of (fun v w1 => Big w1 v z) (fun _ _ _ h hu => h.up hu), SP.is (.pointer (some ⟨G i, j * 2, none⟩)), SP.any] (fun wq => Up wr wq) (by kernel_rfl) (by rfl) (by kernel_rfl) (by kernel_rfl) (fun _ _ h hu => (h).trans hu) (by first | exact Up.refl _ | assumption) (fun ev w9 hS9 i o hne hi hev => ?_) (fun gR wE hq hSE huE => ?_)
                      · have hS1 := hS9
                        have hcC := hev.const
                        have hcF := hev.func
                        have hcG := hev.global
                        rcases i with _ | _ | _ | _ | _ | _ | _ | _ | _ | _ | _ | _ | _ | i
                        · obtain rfl := Option.some.inj (show some _ = some o from hi)
                          have e3 := hev.other 3 (by kernel_rfl)
                          simp [Act.eval] at e3
                          exact leavesR_value (u := .slice (some ⟨gA, 0, none⟩) n cA) (by first | (go_simp; done) | (go_simp; exact rfl)) rfl
                        · obtain rfl := Option.some.inj (show some _ = some o from hi)
                          have e8 := hev.other 8 (by kernel_rfl)
                          simp [Act.eval] at e8
                          exact leavesR_value (u := .int .i64 (i : Nat)) (by first | (go_simp; done) | (go_simp; exact rfl)) rfl
                        · obtain rfl := Option.some.inj (show some _ = some o from hi)
                          have e78 : ev (.tmp 78) = (.slice (some ⟨gA, 0, none⟩) n cA) := hev.dep 0 78 (by kernel_rfl)
                          have e79 : ev (.tmp 79) = (.int .i64 (i : Nat)) := hev.dep 1 79 (by kernel_rfl)
                          exact leavesR_value (u := .pointer (some ⟨gA, i, none⟩)) (by first | (go_simp; done) | (go_simp; exact rfl)) rfl
                        · obtain rfl := Option.some.inj (show some _ = some o from hi)
                          have e80 : ev (.tmp 80) = (.pointer (some ⟨gA, i, none⟩)) := hev.dep 2 80 (by kernel_rfl)
                          have hcx := HCi.out w9 hS1; exact leavesR_value (u := .slice (some ⟨G i, 0, none⟩) n ci) (by go_simp) rfl
                        · obtain rfl := Option.some.inj (show some _ = some o from hi)
                          have e9 := hev.other 9 (by kernel_rfl)
                          simp [Act.eval] at e9
                          exact leavesR_value (u := .int .i64 (j : Nat)) (by first | (go_simp; done) | (go_simp; exact rfl)) rfl
                        · obtain rfl := Option.some.inj (show some _ = some o from hi)
                          have e3 := hev.other 3 (by kernel_rfl)
                          simp [Act.eval] at e3
                          exact leavesR_value (u := .slice (some ⟨gA, 0, none⟩) n cA) (by first | (go_simp; done) | (go_simp; exact rfl)) rfl
                        · obtain rfl := Option.some.inj (show some _ = some o from hi)
                          have e6 := hev.other 6 (by kernel_rfl)
                          simp [Act.eval] at e6
                          exact leavesR_value (u := .int .i64 (k : Nat)) (by first | (go_simp; done) | (go_simp; exact rfl)) rfl
                        · obtain rfl := Option.some.inj (show some _ = some o from hi)
                          have e8 := hev.other 8 (by kernel_rfl)
                          simp [Act.eval] at e8
                          exact leavesR_value (u := .int .i64 (i : Nat)) (by first | (go_simp; done) | (go_simp; exact rfl)) rfl
                        · obtain rfl := Option.some.inj (show some _ = some o from hi)
                          have e9 := hev.other 9 (by kernel_rfl)
                          simp [Act.eval] at e9
                          exact leavesR_value (u := .int .i64 (j : Nat)) (by first | (go_simp; done) | (go_simp; exact rfl)) rfl
                        · obtain rfl := Option.some.inj (show some _ = some o from hi)
                          have e5 := hev.other 5 (by kernel_rfl)
                          simp [Act.eval] at e5
                          exact leavesR_value (run_ldBR rfl (by go_simp) (HMI.out.p.up hS1) rfl) rfl
                        · obtain rfl := Option.some.inj (show some _ = some o from hi)
                          have e83 : ev (.tmp 83) = (.slice (some ⟨gA, 0, none⟩) n cA) := hev.dep 5 83 (by kernel_rfl)
                          have e84 : ev (.tmp 84) = (.int .i64 (k : Nat)) := hev.dep 6 84 (by kernel_rfl)
                          have e85 : ev (.tmp 85) = (.int .i64 (i : Nat)) := hev.dep 7 85 (by kernel_rfl)
                          have e86 : ev (.tmp 86) = (.int .i64 (j : Nat)) := hev.dep 8 86 (by kernel_rfl)
                          have e87 : ev (.tmp 87) = (.agg #[.bool b0, .slice p0 n0 c0]) := hev.dep 9 87 (by kernel_rfl)
                          refine leavesR_call ?_ (HST.out _ hS1)
                          go_simp
                        · obtain rfl := Option.some.inj (show some _ = some o from hi)
                          have e81 : ev (.tmp 81) = (.slice (some ⟨G i, 0, none⟩) n ci) := hev.dep 3 81 (by kernel_rfl)
                          have e82 : ev (.tmp 82) = (.int .i64 (j : Nat)) := hev.dep 4 82 (by kernel_rfl)
                          exact leavesR_value (u := .pointer (some ⟨G i, j * 2, none⟩)) (by first | (go_simp; done) | (go_simp; exact rfl)) rfl
                        · exact absurd rfl hne
                        · exact absurd (show i + 13 < 13 from (Array.getElem?_eq_some_iff.1 hi).1) (by omega)
                      have hS1 := hSE
                      have q0 : gR 78 = (.slice (some ⟨gA, 0, none⟩) n cA) := hq 0 78 (by decide) (by kernel_rfl)
                      have q1 : gR 79 = (.int .i64 (i : Nat)) := hq 1 79 (by decide) (by kernel_rfl)
                      have q2 : gR 80 = (.pointer (some ⟨gA, i, none⟩)) := hq 2 80 (by decide) (by kernel_rfl)
                      have q3 : gR 81 = (.slice (some ⟨G i, 0, none⟩) n ci) := hq 3 81 (by decide) (by kernel_rfl)
                      have q4 : gR 82 = (.int .i64 (j : Nat)) := hq 4 82 (by decide) (by kernel_rfl)
                      have q5 : gR 83 = (.slice (some ⟨gA, 0, none⟩) n cA) := hq 5 83 (by decide) (by kernel_rfl)
                      have q6 : gR 84 = (.int .i64 (k : Nat)) := hq 6 84 (by decide) (by kernel_rfl)
                      have q7 : gR 85 = (.int .i64 (i : Nat)) := hq 7 85 (by decide) (by kernel_rfl)
                      have q8 : gR 86 = (.int .i64 (j : Nat)) := hq 8 86 (by decide) (by kernel_rfl)
                      have q9 : gR 87 = (.agg #[.bool b0, .slice p0 n0 c0]) := hq 9 87 (by decide) (by kernel_rfl)
                      have q10 : (fun v w1 => Big w1 v z) (gR 88) wE := hq 10 88 (by decide) (by kernel_rfl)
                      dsimp only at q10
                      obtain ⟨v88, hv88⟩ : ∃ v, gR 88 = v := ⟨_, rfl⟩
                      rw [hv88] at q10
                      have q11 : gR 89 = (.pointer (some ⟨G i, j * 2, none⟩)) := hq 11 89 (by decide) (by kernel_rfl)
                      refine ⟨fun h => absurd h (by decide), fun o ho => ?_⟩
                      obtain rfl := Option.some.inj (show some _ = some o from ho)
                      simp only [putL, List.map_cons, List.map_nil, q0, q1, q2, q3, q4, q5, q6, q7, q8, q9, hv88, q11, Act.put, pu1, pu2, pu3]
                      clear hq hSE q0 q1 q2 q3 q4 q5 q6 q7 q8 q9 q11
                      obtain ⟨yb, ya, yn, yc, rfl⟩ := q10.shape
                      have hset := DI.set (HMI.out.up hS1) hil hjl (hBi.up hS1) q10
                      refine wp_stB2 _ _ rfl rfl rfl (hBi.up hS1) (by omega) ?_
                      obtain ⟨wK, hwK⟩ : ∃ y, wE.setRow (G i) (splB Ci (j * 2) [.bool yb, .slice ya yn yc]) = y := ⟨_, rfl⟩
                      rw [hwK] at hset ⊢
                      clear hwK hS1 huE q10 HST hBi HCi HMI hUw
                      go_wp2_with fail
                      go_roundg (n - (j + 1))
                      case measure => omega
                      case rel => exact ⟨j + 1, _, by omega, hjl, Nat.le_refl _, rfl, HSet.out, hset⟩
                    · obtain rfl : j = n := by omega
                      have HR2 := hid hAt.row
                      have HMI := hid hMI
                      clear hAt hMI
                      go_wp2_with fail
                      go_roundg (j - (i + 1))
                      case measure => omega
                      case rel => exact ⟨i + 1, V2, by omega, hil, Nat.le_refl _, rfl, HR2.out, HMI.out⟩
                · obtain rfl : i = n := by omega
                  have HLn := hid (show Left i (k + 1) (nxt q M) V1 from HAt.out.all)
                  have h00 : V1 k k = M 0 0 := by rw [HAt.out.old (r := k) (c := k) (by omega) (by omega) (by omega) (by omega) (by omega), Nat.sub_self]
                  obtain ⟨gB, cB, CB, hvB, -, -, hBB, hEB⟩ := HMI.out.m.open (by omega)
                  injection hvB with x1 _ x3
                  injection x1 with x1
                  injection x1 with x1
                  subst x1 x3
                  obtain ⟨ck8, hCk8⟩ := hEB k hlt
                  have hcx := hBB.cell k hCk8
                  obtain ⟨Ck8, bk8, ak8, nk8, dk8, hBk8, -, h1, h2, hbig8⟩ := HMI.out.m.entry hlt hlt
                  have HRk8 := hid (fun w' (hB : Blk w' (G k) 46 Ck8) => bigAt_range hB h1 h2)
                  rw [h00] at hbig8
                  have HE := hid (show St (M 0 0) (k + 1) (nxt q M) ∧ Full (M 0 0) (i - (k + 1)) (nxt q M) (σ * D) from ⟨HSt.out.next (by omega) HM0.out, by
                    have h := HFu.out
                    rw [hs] at h
                    rw [show i - (k + 1) = s by omega]
                    exact h.next HSt.out.1 HSt.out.2.1 HM0.out⟩)
                  obtain ⟨m0, hm0⟩ : ∃ y, M 0 0 = y := ⟨_, rfl⟩
                  rw [hm0] at hbig8 HE
                  clear h00 h1 h2 hEB hCk8 hBB HAt hm0
                  go_wp2_with (first
                    | ((with_reducible apply ldB2_P); exact rfl; exact rfl; exact HRk8.out _ hBk8)
                    | ((with_reducible apply stB_P); exact rfl; exact rfl; exact HMI.out.p; exact rfl; exact rfl; exact one2 _ _ _ _
                       refine wpL_folded (fun wd => DI w b1 bR bG (bG + 1) i (.slice (some ⟨gA, 0, none⟩) i cA) G gb gp gn gc σ bk8 ak8 nk8 dk8 m0 V1 wd) (HMI.out.prev hbig8) ?_
                       rintro w9 h9))
                  go_roundg (i - (k + 1))
                  case measure => omega
                  case rel => exact ⟨k + 1, hlt, Nat.le_refl _, rfl, G, gb, gp, gn, gc, σ, bk8, ak8, nk8, dk8, m0, nxt q M, V1, h9, HLn.out, HE.out.1, HE.out.2, HSg.out⟩
        · obtain rfl : p = n := by omega
          have hD0 : D = 0 := by
            have hf := HFu.out
            rw [hs] at hf
            have h0 := Full.nil hf HSt.out.2.1 (fun i hi => by
              have h1 := HZ.out (k + i) (by omega) (by omega)
              rw [HL.out (k + i) k (by omega) (by omega) (Nat.le_refl _) hlt, show k + i - k = i by omega, Nat.sub_self] at h1
              exact h1)
            rcases HSg.out with h | h <;> rw [h] at h0 <;> omega
          subst hD0
          clear HFu HSt HSg HL HZ HU
          go_wp2_with (first
            | ((with_reducible apply stB_P); exact rfl; exact rfl; exact hDIz.r; exact rfl; exact rfl; exact one2 _ _ _ _))
          exact bodyPost_ret (resB rfl rfl (hDIz.r.setRow _) rfl) rfl ⟨below_setRow hDIz.u hDIz.o.2.2.1 _, _, rfl, big_zero _⟩
    · obtain rfl : k = n := by omega
      have hDq : σ * q = D := by
        have hf := HFu.out
        rw [Nat.sub_self] at hf
        have h0 := hf.zero
        rw [← h0]
        rcases HSg.out with h | h <;> rw [h] <;> omega
      have hσb : σ.natAbs < bp 5 := by
        have h1 : (1 : Int).natAbs < bp 5 := HSt1.out
        rcases HSg.out with h | h <;> rw [h] <;> exact h1
      have HMu := hid (fun w va vb (ha : Big w va σ) (hb : Big w vb q) => mul_big ha hb (nl_bp (k := 5) (by omega) hσb) (nl_bp (k := 5) (by omega) HSt.out.2.2))
      rw [hDq] at HMu
      clear hDq hσb HFu HSt HSg HL HSt1
      go_wp2_with (first
        | ((with_reducible apply ldB_P); exact rfl; exact rfl; (first | exact HDI.out.s | exact HDI.out.p); exact rfl)
        | (go_at_call 23; (with_reducible refine (HMu.out _ _ _ HDI.out.z HDI.out.q).mono ?_); rintro r w7 ⟨hu7, v7, rfl, hB7⟩; obtain ⟨b7, a7, n7, c7, rfl⟩ := hB7.shape)
        | ((with_reducible apply stB_P); exact rfl; exact rfl; exact HDI.out.r.up hu7; exact rfl; exact rfl; exact one2 _ _ _ _))
      have hBR := HDI.out.r.up hu7
      exact bodyPost_ret (resB rfl rfl (hBR.setRow _) rfl) rfl ⟨below_setRow (HDI.out.u.trans hu7) HDI.out.o.2.2.1 _, _, rfl, hB7.setRow hBR⟩
section
variable {a : Act} {w : World} {g : Nat} {b b' : Bool} {p p' : Option Addr} {m k m' k' : Nat}
theorem run_svRF {C : Array Value} {off : Nat} (hB : Blk w g 77 C) (hl : off + 2 ≤ C.size) :
    (storeVar 46 ⟨g, off, none⟩ (.agg #[.bool b, .slice p m k])).run Tryz.prog w = .ok () (w.setRow g (splB C off [.bool b, .slice p m k])) := by
  have hs := run_storeCells_at Tryz.prog g off 77 [.bool b, .slice p m k] 0 C w hB (by simp; omega) (by simp [Value.oneCell'])
  rw [Nat.add_zero] at hs
  unfold splB
  have hi := infoB
  cases hq : Tryz.prog.info? 46 with
  | none => rw [hq] at hi; simp at hi
  | some i =>
    rw [hq] at hi
    have hz : i.size = 2 := by simpa using hi
    have hv : (Value.agg #[.bool b, .slice p m k]).cells.toList = [.bool b, .slice p m k] := rfl
    have hn : (Value.agg #[.bool b, .slice p m k]).cells.size = 2 := rfl
    have hl2 : ([Value.bool b, .slice p m k]).length = 2 := rfl
    rw [hl2] at hs
    simp [storeVar, sizeOf, typeInfo, hq, hz, hv, hn, hs]
theorem wp_stRB {c0 c1 c2 c3 : Value} {K : Act → World → Prop} {Q : Exit → Act → World → Prop} {o : Oper} (x y : Operand) (ho : o.op = .store 46 x y) (hx : a.eval x = .pointer (some ⟨g, 0, none⟩)) (hy : a.eval y = .agg #[.bool b, .slice p m k]) (hB : Blk w g 77 #[c0, c1, c2, c3])
    (h : K (a.put o.dst undef) (w.setRow g #[.bool b, .slice p m k, c2, c3])) : o.wp Tryz.prog a w K Q := by
  unfold Oper.wp execOp
  simp only [ho, hx, hy, Instr.storeAt, Instr.sureAddr, Sem.run_bind, Sem.run_pure, Result.andThen_ok, run_svRF hB (show 0 + 2 ≤ 4 by omega)]
  exact h
theorem four_one : (#[.bool b, .slice p m k, .bool b', .slice p' m' k'] : Array Value).all (·.oneCell') = true := by simp [Value.oneCell']
theorem stRF_P {ops : Array Oper} {rest : List Oper} {Q : Exit → Act → World → Prop} {d : Option Tmp} {s u : Tmp} {ty : TypeId} {pos : String} {af : Array Edge} {C : Array Value} (hx : a.eval (.tmp s) = .pointer (some ⟨g, 0, none⟩)) (hy : a.eval (.tmp u) = .agg #[.bool b, .slice p m k, .bool b', .slice p' m' k']) (hC : Blk w g 77 C) (h2 : C.size = 4)
    (h : wpList Tryz.prog ops Q rest (a.put d undef) (w.setRow g #[.bool b, .slice p m k, .bool b', .slice p' m' k'])) :
    wpList Tryz.prog ops Q ({ dst := d, op := .store 77 (.tmp s) (.tmp u), type := ty, pos := pos, after := af, guard := none } :: rest) a w :=
  wpList_plain rfl fun _ hK => wp_store_row _ _ _ rfl g _ hx hy _ C hC (by rw [infoRF1]; rfl) (by rw [h2]; rfl) four_one (hK _ _ h)
theorem frVar4 (hB : Blk w g 77 #[.bool b, .slice p m k, .bool b', .slice p' m' k']) : w.rangeAt g 0 [.bool b, .slice p m k, .bool b', .slice p' m' k'] := by
  intro j v hv
  rcases j with _ | _ | _ | _ | j <;> simp at hv
  · subst hv; exact hB.cell 0 rfl
  · subst hv; exact hB.cell 1 rfl
  · subst hv; exact hB.cell 2 rfl
  · subst hv; exact hB.cell 3 rfl
theorem ldRF_P {ops : Array Oper} {rest : List Oper} {Q : Exit → Act → World → Prop} {d : Option Tmp} {s : Tmp} {ty : TypeId} {pos : String} {af : Array Edge} {gd : Option (Nat × Bool)} (hw : Region.wanted { dst := d, op := .load 77 (.tmp s), type := ty, pos := pos, after := af, guard := gd } (yielded ops a.tmps) = true) (hx : a.eval (.tmp s) = .pointer (some ⟨g, 0, none⟩))
    (hC : Blk w g 77 #[.bool b, .slice p m k, .bool b', .slice p' m' k']) (h : wpList Tryz.prog ops Q rest (a.put d (.agg #[.bool b, .slice p m k, .bool b', .slice p' m' k'])) w) : wpList Tryz.prog ops Q ({ dst := d, op := .load 77 (.tmp s), type := ty, pos := pos, after := af, guard := gd } :: rest) a w :=
  wpList_run hw (run_ldRF rfl hx (frVar4 hC)) h
theorem run_buildR1 : (Instr.build 77 #[(1, .agg #[.bool b, .slice p m k])]).run Tryz.prog w = .ok (.agg #[.bool false, .slice none 0 0, .bool b, .slice p m k]) w := by kernel_rfl
theorem bdR1_P {ops : Array Oper} {rest : List Oper} {Q : Exit → Act → World → Prop} {d : Option Tmp} {u : Tmp} {ty : TypeId} {pos : String} {af : Array Edge} {gd : Option (Nat × Bool)}
    (hw : Region.wanted { dst := d, op := .build 77 #[(1, .tmp u)], type := ty, pos := pos, after := af, guard := gd } (yielded ops a.tmps) = true) (hu : a.eval (.tmp u) = .agg #[.bool b, .slice p m k])
    (h : wpList Tryz.prog ops Q rest (a.put d (.agg #[.bool false, .slice none 0 0, .bool b, .slice p m k])) w) :
    wpList Tryz.prog ops Q ({ dst := d, op := .build 77 #[(1, .tmp u)], type := ty, pos := pos, after := af, guard := gd } :: rest) a w := by
  refine wpList_run hw ?_ h
  unfold execOp
  simp only [List.map_toArray, List.map_cons, List.map_nil, hu, Sem.run_bind, run_buildR1, Result.andThen_ok, Sem.run_pure]
theorem run_buildR0 : (Instr.build 77 #[]).run Tryz.prog w = .ok (.agg #[.bool false, .slice none 0 0, .bool false, .slice none 0 0]) w := by kernel_rfl
theorem bdR0_P {ops : Array Oper} {rest : List Oper} {Q : Exit → Act → World → Prop} {d : Option Tmp} {ty : TypeId} {pos : String} {af : Array Edge} {gd : Option (Nat × Bool)}
    (hw : Region.wanted { dst := d, op := .build 77 #[], type := ty, pos := pos, after := af, guard := gd } (yielded ops a.tmps) = true)
    (h : wpList Tryz.prog ops Q rest (a.put d (.agg #[.bool false, .slice none 0 0, .bool false, .slice none 0 0])) w) :
    wpList Tryz.prog ops Q ({ dst := d, op := .build 77 #[], type := ty, pos := pos, after := af, guard := gd } :: rest) a w := by
  refine wpList_run hw ?_ h
  unfold execOp
  simp only [List.map_toArray, List.map_nil, Sem.run_bind, run_buildR0, Result.andThen_ok, Sem.run_pure]
theorem resRF {fn : Func} {q u : Tmp} (h : fn.results = #[.cell q 77, .tmp u]) (tmps : Array Value) (hp : tmps.getD q undef = .pointer (some ⟨g, 0, none⟩))
    (hC : Blk w g 77 #[.bool b, .slice p m k, .bool b', .slice p' m' k']) : (results fn tmps).run Tryz.prog w = .ok (.tuple #[.agg #[.bool b, .slice p m k, .bool b', .slice p' m' k'], tmps.getD u undef]) w := by
  obtain ⟨fs, hu⟩ := undRF1
  rw [results_cell_tmp h, hp]
  simp only [asAddr, Sem.run_pure, Result.andThen_ok, run_loadVar_row w g _ 77 #[.bool b, .slice p m k, .bool b', .slice p' m' k'] (0, 0) _ hC hu rfl (by rw [infoRF1]; rfl)]
end
theorem big_setF {w : World} {g : Nat} {C D : Array Value} {v : Value} {z : Int} (hB : Blk w g 77 C) (h : Big w v z) : Big (w.setRow g D) v z := by
  obtain ⟨a, c, h1, a2, c2, h2, h3, h4⟩ := h
  refine ⟨a, c, h1, a2, c2, h2, h3, fun h0 => ?_⟩
  obtain ⟨b, E, h5, h6, h7⟩ := h4 h0
  refine ⟨b, E, h5, h6.row_other _ ?_, h7⟩
  rintro rfl
  unfold Blk at hB h6
  rw [hB] at h6
  simp at h6
def RQuadPost (w : World) (N : Int) (l h : List Int) (r : Ending) (w' : World) : Prop := ∃ b p n c b' p' n' c', r = .returned (.tuple #[.agg #[.bool b, .slice p n c, .bool b', .slice p' n' c'], .int .i64 (slC N l h)]) ∧ Up w w' ∧ (slC N l h = 0 → Big w' (.agg #[.bool b, .slice p n c]) (quN N l h) ∧ Big w' (.agg #[.bool b', .slice p' n' c']) (quD N l h))
set_option maxHeartbeats 16000000 in
theorem rquad_any {v xv : Value} {N : Int} {l x : List Int} {w : World} (hm : Sm w v N l) (hx : Vw w xv x) (hI : In64 x) (hs : x.length ≤ 1000) :
    Calls Tryz.prog 34 #[v, xv] w (RQuadPost w N l x) := by
  have HEX := hid (fun w' (hu : Up w w') => rexact_any (hm.up hu) (hx.up hu) hI hs)
  have HDT := hid (fun (n : Nat) (hN : N = (n : Int)) (hR : rt n l = true) w' (hu : Up w w') => rdet_any (hN ▸ hm.up hu) hR)
  have HI := hid hI
  have HXC := hid (fun w' (hu : Up w w') => Vw.up hu hx)
  obtain ⟨px, cx, rfl, -, -⟩ := hx
  obtain ⟨s, rfl, ⟨p, cap, rfl, -, -⟩, -, -, -⟩ := hm
  obtain ⟨W0, hW0⟩ : ∃ y, (w.alloc (.cells #[.int .i64 N, .slice p l.length cap] 24)).alloc (.cells #[.bool false, .slice none 0 0, .bool false, .slice none 0 0] 77) = y := ⟨_, rfl⟩
  have hB : Blk W0 w.heap.size 24 #[.int .i64 N, .slice p l.length cap] := by rw [← hW0]; exact (Blk.new _ _ rfl).old _
  have hQ : Blk W0 (w.heap.size + 1) 77 #[.bool false, .slice none 0 0, .bool false, .slice none 0 0] := by rw [← hW0]; exact Blk.new _ _ (by simp)
  have hU : Up w W0 := by rw [← hW0]; exact (Up.alloc _ _).trans (Up.alloc _ _)
  unfold RQuadPost
  unfold RExactPost at HEX
  by_cases h0 : slC N l x = 0
  · obtain ⟨n, rfl, hD, hxl⟩ := slC_def h0
    have hn8 := hD.n8
    have eN : quN n l x = qdS x (slX n l x) n := by unfold quN; rw [if_pos h0]; rfl
    have eD : quD n l x = slD n l := by unfold quD; rw [if_pos h0]; rfl
    have eX : exL n l x = slL n l x := by unfold exL; rw [if_pos h0]; rfl
    rw [h0, eX] at HEX
    rw [h0, eN, eD]
    have hln : (slL n l x).length = n := mk_len _ _
    have HLn := hid hln
    have HAt := hid (fun i (hi : i < n) => show zth (slL n l x) i = slX n l x i from mk_at hi)
    have HQb := hid (qdS_bp hD.vec (fun j => hD.num_bp j))
    have HXb := hid (fun i => hD.num_bp i)
    have HXL := hid hxl
    have HDn := hid (HDT.out n rfl hD.right)
    rw [show det n (AM n l) = slD n l from rfl] at HDn
    rw [show slD (n : Int).toNat l = slD n l from rfl] at HEX
    have HVi := hid (fun i (hi : i < n) => (HI.out i (by omega) : I64 (zth x i)))
    rw [hxl] at HEX ⊢
    obtain ⟨X, hX⟩ : ∃ X, slX n l x = X := ⟨_, rfl⟩
    rw [hX] at HAt HQb HXb ⊢
    obtain ⟨F, hF⟩ : ∃ F, slL n l x = F := ⟨_, rfl⟩
    rw [hF] at HAt HEX HLn hln
    obtain ⟨D, hDd⟩ : ∃ D, slD n l = D := ⟨_, rfl⟩
    rw [hDd] at HDn HEX ⊢
    clear hDd hX hF HDT hD hxl h0 eN eD eX hI hs hln
    go_enter Tryz.func34, Tryz.ntmps34
    go_wp2_with (first
      | ((with_reducible apply ldM_P); exact rfl; exact rfl; (first | exact hB | exact hB.up hu1); exact rfl)
      | (go_at_call 27; (with_reducible refine (HEX.out _ hU).mono ?_); rintro r w1 ⟨z1, rfl, hu1, hF1⟩; obtain ⟨pz, cz, rfl⟩ := hF1.slice; have hU1 := hU.trans hu1)
      | (go_at_call 16; (with_reducible refine (HDn.out _ hU1).mono ?_); rintro r w2 ⟨hu2, z2, rfl, hDb⟩; obtain ⟨bd, pd, nd, cd, rfl⟩ := hDb.shape)
      | ((with_reducible apply bdR1_P); exact rfl; exact rfl)
      | ((with_reducible apply stRF_P); exact rfl; exact rfl; exact Blk.new _ _ rfl; exact rfl
         refine wpL_folded (fun wd => Up w2 wd ∧ Blk wd w2.heap.size 77 #[.bool false, .slice none 0 0, .bool bd, .slice pd nd cd]) ⟨gUp, Blk.setRow (Blk.new _ _ rfl) _⟩ ?_
         rintro w3 ⟨hu3, hb3⟩))
    rw [HLn.out]
    obtain ⟨bF, hbF⟩ : ∃ y, w2.heap.size = y := ⟨_, rfl⟩
    rw [hbF] at hb3 ⊢
    have HF := hid (hF1.up (hu2.trans hu3))
    have HDb := hid (hDb.up hu3)
    have hU3 := (hU1.trans hu2).trans hu3
    have hQ3 := hQ.up ((hu1.trans hu2).trans hu3)
    have hq2 := hid (show w.heap.size + 1 < bF from by rw [← hbF]; exact (hQ.up (hu1.trans hu2)).lt)
    have hz3 : bF < w3.heap.size := hb3.lt
    have HXC2 := hid (fun w' (hu : Up w w') i (hi : i < n) => show ∃ ad, px = some ad ∧ w'.cell? (ad.add i) = some (.int .i64 (zth x i)) from by
      obtain ⟨q', cq', xq, _, hcq⟩ := HXC.out _ hu
      injection xq with y1 y2 y3
      subst y1
      obtain ⟨ad, h1, h2⟩ := hcq i (by rw [HXL.out]; exact hi)
      exact ⟨ad, h1, h2⟩)
    have HU2 := hid (show Below bF w w2 → True from fun _ => trivial)
    have hBB : Below bF w2 w3 := by rw [← hbF]; exact hu3
    have HUw : Hid (Up w w2) := hid (hU1.trans hu2)
    have HFw := hid (hF1.up hu2)
    have HDw := hid hDb
    have HQw := hid (hQ.up (hu1.trans hu2))
    have HbF := hid hbF
    clear hu1 hu2 hu3 hU1 hU hQ hB hW0 hF1 hDb HEX HDn HF HDb hQ3 hU3 hz3 HU2 hbF HXC HI
    go_loopg [9] n (fun g ti wr => ∃ (i : Nat) (b0 : Bool) (qa0 : Option Addr) (n0 k0 : Nat), i ≤ n ∧ n - i ≤ g ∧ ti = .int .i64 (i : Nat) ∧ Blk wr bF 77 #[.bool b0, .slice qa0 n0 k0, .bool bd, .slice pd nd cd] ∧ Big wr (.agg #[.bool b0, .slice qa0 n0 k0]) (qdS x X i) ∧ Up w2 wr)
    case atStart => exact ⟨0, false, none, 0, 0, Nat.zero_le _, by omega, rfl, hb3, big_zero _, by rw [← HbF.out] at hBB; exact hBB⟩
    case round =>
      clear hBB hb3
      obtain ⟨i, b0, qa0, n0, k0, hi, hig, rfl, hb, hg, hu⟩ := hrel
      obtain ⟨hs7, hp6⟩ := HQb.out i (by omega)
      by_cases hlt : i < n
      · obtain ⟨gZ, cz0, CZ, hv, -, hBZ, htZ⟩ := HFw.out.open (by rw [HLn.out]; omega)
        rw [HLn.out] at hv
        injection hv with x1 _ x3
        subst x1 x3
        obtain ⟨b1, a1, n1, c1, b2, a2, n2, c2, q1, q2, q3, q4, hbz, -⟩ := htZ i (by rw [HLn.out]; exact hlt)
        rw [HAt.out i hlt] at hbz
        have HRng := hid (fun w' (hB : Blk w' gZ 77 CZ) => (frAt hB q1 q2 q3 q4).1)
        have hBZr := hBZ.up hu
        have Hbz := hid (hbz.up hu)
        have HX9 := hid (fun w' (hu9 : Up wr w') => HXC2.out w' ((HUw.out.trans hu).trans hu9) i hlt)
        obtain ⟨ad, rfl, -⟩ := HX9.out _ (Up.refl _)
        have HX8 := hid (fun w' (hu9 : Up wr w') => show w'.cell? (ad.add i) = some (.int .i64 (zth x i)) from by obtain ⟨a9, e9, h9⟩ := HX9.out w' hu9; injection e9 with e9; subst e9; exact h9)
        have hv64 := HVi.out i hlt
        have HOf := hid (fun w => of_big (zth x i) hv64.1 hv64.2 w)
        have e1 : IntKind.i64.wrap ((i : Int) + 1) = (i : Int) + 1 := IntWalk.i64_in _ (by omega)
        have HMu := hid (fun va vb w (ha : Big w va (zth x i)) (hb : Big w vb (X i)) => mul_big ha hb (nl_bp (k := 1) (by omega) (i64_bp hv64)) (nl_bp (k := 5) (by omega) (HXb.out i)))
        have HAd := hid (fun va vb w (ha : Big w va (qdS x X i)) (hb : Big w vb (zth x i * X i)) => show Calls Tryz.prog 72 #[va, vb] w (fun e w' => Up w w' ∧ ∃ v, e = .returned v ∧ Big w' v (qdS x X (i + 1))) from add_big ha hb (nl_bp (k := 7) (by omega) hs7) (nl_bp (k := 6) (by omega) hp6))
        have Hg := hid hg
        clear htZ hBZ q1 q2 q3 q4 hbz hs7 hp6 HX9 hv64 hg
        generalize zth x i = y at *
        obtain ⟨s1, hs1⟩ : ∃ y, qdS x X (i + 1) = y := ⟨_, rfl⟩
        rw [hs1] at HAd
        have HS1 := hid hs1
        clear hs1
        generalize qdS x X i = s0 at *
        generalize X i = z at *
        go_wp2_with fail
        refine wp_region_sp (n := 45) 15 [29, 30, 31, 32, 33, 34, 35, 36, 37, 38, 39, 40, 41, 42, 43] [SP.is (.pointer (some ⟨bF, 0, none⟩)), SP.is (.agg #[.bool b0, .slice qa0 n0 k0]), SP.is (.slice (some ad) n cx), SP.is (.int .i64 (i : Nat)), SP.is (.pointer (some (ad.add i))), SP.is (.int .i64 y), SP.of (fun v w1 => Big w1 v y) (fun _ _ _ h hu => h.up hu), SP.is (.slice (some ⟨gZ, 0, none⟩) n cz), SP.is (.int .i64 (i : Nat)), SP.is (.pointer (some ⟨gZ, i * 4, none⟩)), SP.is (.pointer (some ⟨gZ, i * 4, none⟩)), SP.is (.agg #[.bool b1, .slice a1 n1 c1]), SP.of (fun v w1 => Big w1 v (y * z)) (fun _ _ _ h hu => h.up hu), SP.of (fun v w1 => Big w1 v s1) (fun _ _ _ h hu => h.up hu), SP.is (.pointer (some ⟨bF, 0, none⟩)), SP.any] (fun wq => Blk wq bF 77 #[.bool b0, .slice qa0 n0 k0, .bool bd, .slice pd nd cd] ∧ Up wr wq ∧ Below w.heap.size w wq) (by kernel_rfl) (by rfl) (by kernel_rfl) (by kernel_rfl) (fun _ _ h hu => ⟨(h.1).up hu, (h.2.1).trans hu, below_up (h.2.2) hu⟩) ⟨(by first | assumption | exact gBlk), (by first | exact Up.refl _ | assumption), gUp⟩ (fun ev w9 hS9 i o hne hi hev => ?_) (fun gR wE hq hSE huE => ?_)
        · have ⟨hS1, hS2, hSB⟩ := hS9
          have hcC := hev.const
          have hcF := hev.func
          have hcG := hev.global
          rcases i with _ | _ | _ | _ | _ | _ | _ | _ | _ | _ | _ | _ | _ | _ | _ | _ | i
          · obtain rfl := Option.some.inj (show some _ = some o from hi)
            have e8 := hev.other 8 (by kernel_rfl)
            simp [Act.eval] at e8
            exact leavesR_value (u := .pointer (some ⟨bF, 0, none⟩)) (by first | (go_simp; done) | (go_simp; exact rfl)) rfl
          · obtain rfl := Option.some.inj (show some _ = some o from hi)
            have e29 : ev (.tmp 29) = (.pointer (some ⟨bF, 0, none⟩)) := hev.dep 0 29 (by kernel_rfl)
            exact leavesR_value (run_ldB2 rfl e29 (frVar hS1).1) rfl
          · obtain rfl := Option.some.inj (show some _ = some o from hi)
            have e1 := hev.other 1 (by kernel_rfl)
            simp [Act.eval] at e1
            exact leavesR_value (u := .slice (some ad) n cx) (by first | (go_simp; done) | (go_simp; exact rfl)) rfl
          · obtain rfl := Option.some.inj (show some _ = some o from hi)
            have e9 := hev.other 9 (by kernel_rfl)
            simp [Act.eval] at e9
            exact leavesR_value (u := .int .i64 (i : Nat)) (by first | (go_simp; done) | (go_simp; exact rfl)) rfl
          · obtain rfl := Option.some.inj (show some _ = some o from hi)
            have e31 : ev (.tmp 31) = (.slice (some ad) n cx) := hev.dep 2 31 (by kernel_rfl)
            have e32 : ev (.tmp 32) = (.int .i64 (i : Nat)) := hev.dep 3 32 (by kernel_rfl)
            exact leavesR_value (u := .pointer (some (ad.add i))) (by first | (go_simp; done) | (go_simp; exact rfl)) rfl
          · obtain rfl := Option.some.inj (show some _ = some o from hi)
            have e33 : ev (.tmp 33) = (.pointer (some (ad.add i))) := hev.dep 4 33 (by kernel_rfl)
            have hcx := HX8.out _ hS2; exact leavesR_value (u := .int .i64 y) (by go_simp) rfl
          · obtain rfl := Option.some.inj (show some _ = some o from hi)
            have e34 : ev (.tmp 34) = (.int .i64 y) := hev.dep 5 34 (by kernel_rfl)
            refine leavesR_call ?_ (HOf.out _)
            go_simp
          · obtain rfl := Option.some.inj (show some _ = some o from hi)
            have e6 := hev.other 6 (by kernel_rfl)
            simp [Act.eval] at e6
            exact leavesR_value (u := .slice (some ⟨gZ, 0, none⟩) n cz) (by first | (go_simp; done) | (go_simp; exact rfl)) rfl
          · obtain rfl := Option.some.inj (show some _ = some o from hi)
            have e9 := hev.other 9 (by kernel_rfl)
            simp [Act.eval] at e9
            exact leavesR_value (u := .int .i64 (i : Nat)) (by first | (go_simp; done) | (go_simp; exact rfl)) rfl
          · obtain rfl := Option.some.inj (show some _ = some o from hi)
            have e36 : ev (.tmp 36) = (.slice (some ⟨gZ, 0, none⟩) n cz) := hev.dep 7 36 (by kernel_rfl)
            have e37 : ev (.tmp 37) = (.int .i64 (i : Nat)) := hev.dep 8 37 (by kernel_rfl)
            exact leavesR_value (u := .pointer (some ⟨gZ, i * 4, none⟩)) (by first | (go_simp; done) | (go_simp; exact rfl)) rfl
          · obtain rfl := Option.some.inj (show some _ = some o from hi)
            have e38 : ev (.tmp 38) = (.pointer (some ⟨gZ, i * 4, none⟩)) := hev.dep 9 38 (by kernel_rfl)
            exact leavesR_value (u := .pointer (some ⟨gZ, i * 4, none⟩)) (by first | (go_simp; done) | (go_simp; exact rfl)) rfl
          · obtain rfl := Option.some.inj (show some _ = some o from hi)
            have e39 : ev (.tmp 39) = (.pointer (some ⟨gZ, i * 4, none⟩)) := hev.dep 10 39 (by kernel_rfl)
            exact leavesR_value (run_ldB2 rfl e39 (HRng.out _ (hBZr.up hS2))) rfl
          · obtain rfl := Option.some.inj (show some _ = some o from hi)
            have e35 : (fun v w1 => Big w1 v y) (ev (.tmp 35)) w9 := hev.dep 6 35 (by kernel_rfl)
            dsimp only at e35
            obtain ⟨v35, hv35⟩ : ∃ v, ev (.tmp 35) = v := ⟨_, rfl⟩
            rw [hv35] at e35
            have e40 : ev (.tmp 40) = (.agg #[.bool b1, .slice a1 n1 c1]) := hev.dep 11 40 (by kernel_rfl)
            refine leavesR_call ?_ (HMu.out _ _ _ e35 (e40 ▸ Hbz.out.up hS2))
            go_simp
          · obtain rfl := Option.some.inj (show some _ = some o from hi)
            have e30 : ev (.tmp 30) = (.agg #[.bool b0, .slice qa0 n0 k0]) := hev.dep 1 30 (by kernel_rfl)
            have e41 : (fun v w1 => Big w1 v (y * z)) (ev (.tmp 41)) w9 := hev.dep 12 41 (by kernel_rfl)
            dsimp only at e41
            obtain ⟨v41, hv41⟩ : ∃ v, ev (.tmp 41) = v := ⟨_, rfl⟩
            rw [hv41] at e41
            refine leavesR_call ?_ (HAd.out _ _ _ (e30 ▸ Hg.out.up hS2) e41)
            go_simp
          · obtain rfl := Option.some.inj (show some _ = some o from hi)
            have e8 := hev.other 8 (by kernel_rfl)
            simp [Act.eval] at e8
            exact leavesR_value (u := .pointer (some ⟨bF, 0, none⟩)) (by first | (go_simp; done) | (go_simp; exact rfl)) rfl
          · exact absurd rfl hne
          · exact absurd (show i + 16 < 16 from (Array.getElem?_eq_some_iff.1 hi).1) (by omega)
        have ⟨hS1, hS2, hSB⟩ := hSE
        have q0 : gR 29 = (.pointer (some ⟨bF, 0, none⟩)) := hq 0 29 (by decide) (by kernel_rfl)
        have q1 : gR 30 = (.agg #[.bool b0, .slice qa0 n0 k0]) := hq 1 30 (by decide) (by kernel_rfl)
        have q2 : gR 31 = (.slice (some ad) n cx) := hq 2 31 (by decide) (by kernel_rfl)
        have q3 : gR 32 = (.int .i64 (i : Nat)) := hq 3 32 (by decide) (by kernel_rfl)
        have q4 : gR 33 = (.pointer (some (ad.add i))) := hq 4 33 (by decide) (by kernel_rfl)
        have q5 : gR 34 = (.int .i64 y) := hq 5 34 (by decide) (by kernel_rfl)
        have q6 : (fun v w1 => Big w1 v y) (gR 35) wE := hq 6 35 (by decide) (by kernel_rfl)
        dsimp only at q6
        obtain ⟨v35, hv35⟩ : ∃ v, gR 35 = v := ⟨_, rfl⟩
        rw [hv35] at q6
        have q7 : gR 36 = (.slice (some ⟨gZ, 0, none⟩) n cz) := hq 7 36 (by decide) (by kernel_rfl)
        have q8 : gR 37 = (.int .i64 (i : Nat)) := hq 8 37 (by decide) (by kernel_rfl)
        have q9 : gR 38 = (.pointer (some ⟨gZ, i * 4, none⟩)) := hq 9 38 (by decide) (by kernel_rfl)
        have q10 : gR 39 = (.pointer (some ⟨gZ, i * 4, none⟩)) := hq 10 39 (by decide) (by kernel_rfl)
        have q11 : gR 40 = (.agg #[.bool b1, .slice a1 n1 c1]) := hq 11 40 (by decide) (by kernel_rfl)
        have q12 : (fun v w1 => Big w1 v (y * z)) (gR 41) wE := hq 12 41 (by decide) (by kernel_rfl)
        dsimp only at q12
        obtain ⟨v41, hv41⟩ : ∃ v, gR 41 = v := ⟨_, rfl⟩
        rw [hv41] at q12
        have q13 : (fun v w1 => Big w1 v s1) (gR 42) wE := hq 13 42 (by decide) (by kernel_rfl)
        dsimp only at q13
        obtain ⟨v42, hv42⟩ : ∃ v, gR 42 = v := ⟨_, rfl⟩
        rw [hv42] at q13
        have q14 : gR 43 = (.pointer (some ⟨bF, 0, none⟩)) := hq 14 43 (by decide) (by kernel_rfl)
        refine ⟨fun h => absurd h (by decide), fun o ho => ?_⟩
        obtain rfl := Option.some.inj (show some _ = some o from ho)
        simp only [putL, List.map_cons, List.map_nil, q0, q1, q2, q3, q4, q5, hv35, q7, q8, q9, q10, q11, hv41, hv42, q14, Act.put, pu1, pu2, pu3]
        clear hq hSE q0 q1 q2 q3 q4 q5 q7 q8 q9 q10 q11 q14
        obtain ⟨b7, a7, n7, c7, rfl⟩ := q13.shape
        refine wp_stRB _ _ rfl rfl rfl hS1 ?_
        have kB := hS1.setRow #[.bool b7, .slice a7 n7 c7, .bool bd, .slice pd nd cd]
        have kU : Up w2 _ := below_setRow (hu.trans hS2) (show w2.heap.size ≤ bF by rw [HbF.out]; exact Nat.le_refl _) #[.bool b7, .slice a7 n7 c7, .bool bd, .slice pd nd cd]
        have kG : Big (wE.setRow bF #[.bool b7, .slice a7 n7 c7, .bool bd, .slice pd nd cd]) (.agg #[.bool b7, .slice a7 n7 c7]) s1 := big_setF hS1 q13
        clear hS1 hS2 hSB huE q6 q12 q13 hBZr
        go_wp2_with fail
        go_roundg (n - (i + 1))
        case measure => omega
        case rel => exact ⟨i + 1, b7, a7, n7, c7, hlt, Nat.le_refl _, rfl, kB, by rw [HS1.out]; exact kG, kU⟩
      · obtain rfl : i = n := by omega
        have hq := HQw.out.up hu
        have hbD := HDw.out.up hu
        have hne : w.heap.size + 1 ≠ bF := by have := hq2.out; omega
        go_wp2_with (first
          | ((with_reducible apply ldRF_P); exact rfl; exact rfl; exact hb)
          | ((with_reducible apply stRF_P); exact rfl; exact rfl; exact hq; exact rfl
             refine wpL_folded (fun wd => Up w wd ∧ Blk wd (w.heap.size + 1) 77 #[.bool b0, .slice qa0 n0 k0, .bool bd, .slice pd nd cd] ∧ Big wd (.agg #[.bool b0, .slice qa0 n0 k0]) (qdS x X i) ∧ Big wd (.agg #[.bool bd, .slice pd nd cd]) D) ⟨below_setRow (HUw.out.trans hu) (by omega) _, Blk.setRow hq _, big_setF hq hg, big_setF hq hbD⟩ ?_
             rintro w3 ⟨j1, j2, j3, j4⟩))
        exact bodyPost_ret (resRF rfl _ rfl j2) rfl ⟨_, _, _, _, _, _, _, _, rfl, j1, fun _ => ⟨j3, j4⟩⟩
  · obtain ⟨S, hS⟩ : ∃ S, slC N l x = S := ⟨_, rfl⟩
    rw [hS] at h0 HEX ⊢
    have d0 : (S != 0) = true := by simpa using h0
    have H0 := hid h0
    clear h0 hS hI hs HDT
    go_enter Tryz.func34, Tryz.ntmps34
    go_wp2_with (first
      | ((with_reducible apply ldM_P); exact rfl; exact rfl; exact hB; exact rfl)
      | (go_at_call 27; (with_reducible refine (HEX.out _ hU).mono ?_); rintro r w1 ⟨z1, rfl, hu1, hF1⟩; obtain ⟨pz, cz, rfl⟩ := hF1.slice; have hU1 := hU.trans hu1)
      | ((with_reducible apply bdR0_P); exact rfl)
      | ((with_reducible apply stRF_P); exact rfl; exact rfl; exact hQ.up hu1; exact rfl
         refine wpL_folded (fun wd => Up w wd ∧ Blk wd (w.heap.size + 1) 77 #[.bool false, .slice none 0 0, .bool false, .slice none 0 0]) ⟨below_setRow hU1 (by omega) _, Blk.setRow (hQ.up hu1) _⟩ ?_
         rintro w3 ⟨hu3, hb3⟩))
    exact bodyPost_ret (resRF rfl _ rfl hb3) rfl ⟨_, _, _, _, _, _, _, _, rfl, hu3, fun h => absurd h H0.out⟩
theorem run_eqWself (d : Nat) (f : Nat → Nat) (w : World) : (Op.equalIn (d + 1 + 1) 33 (.agg (cells 16 f)) (.agg (cells 16 f))).run Tryz.prog w = .ok true w := by
  obtain ⟨i, hi⟩ := Option.isSome_iff_exists.1 (show (Tryz.prog.info? 31).isSome = true by kernel_rfl)
  have hc : Tryz.prog.cellsOf 31 = 1 := by kernel_rfl
  rw [run_equalIn_array w (d + 1) _ _ undW hi, hc, run_eqItems f f 16 d w (List.range 16) (by simp)]
  simp
theorem run_partN (f g : Nat → Nat) (w : World) : (part 33 (cells 16 f ++ cells 16 g) 0).run Tryz.prog w = .ok (.agg (cells 16 f)) w := by
  unfold cells
  kernel_rfl
theorem run_partD (f g : Nat → Nat) (w : World) : (part 33 (cells 16 f ++ cells 16 g) 16).run Tryz.prog w = .ok (.agg (cells 16 g)) w := by
  unfold cells
  kernel_rfl
theorem fieldsF : ((Tryz.prog.fieldsOf 73).toList.map fun f => (f.name == "_", f.type, f.offset)) = [(false, 33, 0), (false, 33, 16)] := by kernel_rfl
theorem run_eqlF (z D : Int) (w : World) : (binOp .eql 73 (.agg (fA z D)) (.agg (fA z D))).run Tryz.prog w = .ok (.bool true) w := by
  have ht : Tryz.prog.underlying 73 = some (.struct (Tryz.prog.fieldsOf 73)) := by
    obtain ⟨fs, hu⟩ := undF
    unfold Program.fieldsOf
    rw [hu]
  have hp : Tryz.prog.stoodInHeld 73 = false := by kernel_rfl
  have hf := fieldsF
  rw [run_eql_struct, show (10000 : Nat) = 9997 + 1 + 1 + 1 from rfl, run_equalIn_struct w (9997 + 1 + 1) _ _ _ ht hp]
  generalize (Tryz.prog.fieldsOf 73).toList = L at hf
  rcases L with _ | ⟨a, _ | ⟨b, _ | ⟨c, L⟩⟩⟩
  · simp at hf
  · simp at hf
  · simp only [List.map_cons, List.map_nil, List.cons.injEq, Prod.mk.injEq, and_true, beq_eq_false_iff_ne] at hf
    obtain ⟨⟨a1, a2, a3⟩, b1, b2, b3⟩ := hf
    unfold fA
    unfold Op.eqFields
    rw [if_pos a1, a2, a3]
    simp only [Sem.run_bind, run_partN, Result.andThen_ok, run_eqWself, Bool.not_true, Bool.false_eq_true, if_false]
    unfold Op.eqFields
    rw [if_pos b1, b2, b3]
    simp only [Sem.run_bind, run_partD, Result.andThen_ok, run_eqWself, Bool.not_true, Bool.false_eq_true, if_false]
    unfold Op.eqFields
    rfl
  · simp at hf
theorem qu_bounds {N : Int} {l x : List Int} (h0 : slC N l x = 0) : (quN N l x).natAbs < bp 15 ∧ (quD N l x).natAbs < bp 15 := by
  obtain ⟨n, rfl, hD, -⟩ := slC_def h0
  have eN : quN n l x = qdS x (slX n l x) n := by unfold quN; rw [if_pos h0]; rfl
  have eD : quD n l x = slD n l := by unfold quD; rw [if_pos h0]; rfl
  rw [eN, eD]
  exact ⟨Nat.lt_of_lt_of_le (qdS_bp hD.vec (fun j => hD.num_bp j) n hD.n8).1 (bp_mono (by decide)), Nat.lt_of_lt_of_le hD.den_bp (bp_mono (by decide))⟩
theorem qu_none {N : Int} {l x : List Int} (h0 : slC N l x ≠ 0) : quN N l x = 0 ∧ quD N l x = 0 := ⟨if_neg h0, if_neg h0⟩
theorem run_neF {o : Oper} {ev : Operand → Value} {x y : Operand} {u : TypeId} (ho : o.op = .binOp .neq 73 x y u) {z D : Int} (hx : ev x = .agg (fA z D)) (hy : ev y = .agg (fA z D)) (w : World) :
    (execOp ev o).run Tryz.prog w = .ok (.value (.bool false)) w := by
  have h := run_eqlF z D w
  rw [run_eql_struct] at h
  unfold execOp
  simp only [ho, hx, hy, Sem.run_bind, run_eqGuard_agg _ _ _ _ _ _ _ (show Tryz.prog.eqGuardType Tryz.prog.depth 73 = false by kernel_rfl), Result.andThen_ok, run_neq_struct]
  cases hq : (Op.equalIn 10000 73 (.agg (fA z D)) (.agg (fA z D))).run Tryz.prog w with
  | ok b w' =>
    rw [hq] at h
    simp only [Result.andThen_ok] at h
    injection h with h1 h2
    injection h1 with h1
    subst h1 h2
    rfl
  | _ => rw [hq] at h; simp [Result.andThen] at h
theorem neF_P {ops : Array Oper} {rest : List Oper} {Q : Exit → Act → World → Prop} {a : Act} {w : World} {d : Option Tmp} {s r : Tmp} {u ty : TypeId} {pos : String} {af : Array Edge} {gd : Option (Nat × Bool)} {z D : Int}
    (hw : Region.wanted { dst := d, op := .binOp .neq 73 (.tmp s) (.tmp r) u, type := ty, pos := pos, after := af, guard := gd } (yielded ops a.tmps) = true) (hx : a.eval (.tmp s) = .agg (fA z D)) (hy : a.eval (.tmp r) = .agg (fA z D))
    (h : wpList Tryz.prog ops Q rest (a.put d (.bool false)) w) : wpList Tryz.prog ops Q ({ dst := d, op := .binOp .neq 73 (.tmp s) (.tmp r) u, type := ty, pos := pos, after := af, guard := gd } :: rest) a w :=
  wpList_run hw (run_neF rfl hx hy w) h
theorem run_buildF0 (w : World) : (Instr.build 73 #[]).run Tryz.prog w = .ok (.agg (fA 0 0)) w := by
  rw [fA_zero]
  kernel_rfl
theorem bdF0_P {ops : Array Oper} {rest : List Oper} {Q : Exit → Act → World → Prop} {a : Act} {w : World} {d : Option Tmp} {ty : TypeId} {pos : String} {af : Array Edge} {gd : Option (Nat × Bool)}
    (hw : Region.wanted { dst := d, op := .build 73 #[], type := ty, pos := pos, after := af, guard := gd } (yielded ops a.tmps) = true)
    (h : wpList Tryz.prog ops Q rest (a.put d (.agg (fA 0 0))) w) :
    wpList Tryz.prog ops Q ({ dst := d, op := .build 73 #[], type := ty, pos := pos, after := af, guard := gd } :: rest) a w := by
  refine wpList_run hw ?_ h
  unfold execOp
  simp only [List.map_toArray, List.map_nil, Sem.run_bind, run_buildF0, Result.andThen_ok, Sem.run_pure]
theorem col_in {w w' : World} {n a : Nat} {l : List Int} {r : Ending} (h : ColPost w n l a r w') (hR : rt n l = true) (ha : a < n) : ∃ z u, r = .returned (.tuple #[z, u]) ∧ Up w w' ∧ ErrsP solveB w' u (slC n l (unitL n a)) ∧ Fv w' z (slD n l) (exL n l (unitL n a)) := by
  obtain ⟨z, u, rfl, hu, he, h1, h2⟩ := h
  have e : clC n l a = slC n l (unitL n a) := by unfold clC; rw [hR, if_pos rfl, if_pos ⟨by omega, by omega⟩]; rfl
  rw [e] at he h1 h2
  refine ⟨z, u, rfl, hu, he, ?_⟩
  by_cases h0 : slC n l (unitL n a) = 0
  · rw [show exL n l (unitL n a) = slL n l (unitL n a) from by unfold exL; rw [if_pos h0]; rfl]
    exact h2 h0
  · rw [show exL n l (unitL n a) = [] from if_neg h0, h1 h0]
    exact .inl ⟨rfl, _, _, rfl⟩
theorem col_out {w w' : World} {n : Nat} {i : Int} {l : List Int} {r : Ending} (h : ColPost w n l i r w') (hR : rt n l = true) (hi : ¬ (0 ≤ i ∧ i < (n : Int))) : ∃ u, r = .returned (.tuple #[.slice none 0 0, u]) ∧ Up w w' ∧ ErrsP solveB w' u 20 := by
  obtain ⟨z, u, rfl, hu, he, h1, h2⟩ := h
  have e : clC n l i = 20 := by unfold clC; rw [hR, if_pos rfl, if_neg hi]
  rw [e] at he h1
  rw [h1 (by decide)]
  exact ⟨u, rfl, hu, he⟩
theorem col_wrong {w w' : World} {N i : Int} {l : List Int} {r : Ending} (h : ColPost w N l i r w') (hR : rt N l = false) : ∃ u, r = .returned (.tuple #[.slice none 0 0, u]) ∧ Up w w' ∧ ErrsP solveB w' u 23 := by
  obtain ⟨z, u, rfl, hu, he, h1, h2⟩ := h
  have e : clC N l i = 23 := by unfold clC; rw [hR]; rfl
  rw [e] at he h1
  rw [h1 (by decide)]
  exact ⟨u, rfl, hu, he⟩
set_option maxHeartbeats 32000000 in
theorem quads7_w {w : World} {a0 : Int} {p0 : Option Addr} {len0 cap0 : Nat} {l0 : List Int} {vh vv : Value} {hs lv : List Int} (n d : Nat) (iq : Int) (hg : Glob w) (hraw : Vw w (.slice p0 len0 cap0) l0) (ha0 : I64 a0) (hl0 : In64 l0)
    (hn : n < 256) (hd : d < 65536) (hvh : Vh w vh hs) (h16 : In16 hs) (hvv : Vw w vv lv) (hIv : In64 lv) (hiq : I64 iq) :
    Calls Tryz.prog 6 #[.agg #[.int .i64 a0, .slice p0 len0 cap0], .int .u8 (n : Nat), .int .u16 (d : Nat), vh, vv, .int .i64 iq] w fun r w' => r = .returned (.bool true) ∧ Up w w' := by
  have HK := hid (fun w' (hu : Up w w') => sknown_true (hg.up hu))
  have HG := hid (fun w' (hu : Up w w') => hg.up hu)
  have HVV := hid (fun w' (hu : Up w w') => Vw.up hu hvv)
  have hlen : len0 = l0.length := by
    obtain ⟨p, c, e, _⟩ := hraw
    injection e
  obtain ⟨ph, ch, rfl, hhc⟩ := hvh
  obtain ⟨pv, cv, rfl, -⟩ := hvv
  obtain ⟨W0, hW0⟩ : ∃ W0, w.alloc (.cells #[.int .i64 a0, .slice p0 len0 cap0] 24) = W0 := ⟨_, rfl⟩
  have hB : Blk W0 w.heap.size 24 #[.int .i64 a0, .slice p0 len0 cap0] := by rw [← hW0]; exact Blk.new _ _ rfl
  have hU : Up w W0 := by rw [← hW0]; exact Up.alloc _ _
  by_cases hA : len0 ≤ 60
  · have d1 : decide ((60 : Int) < (len0 : Int)) = false := decide_eq_false (by omega)
    by_cases hC : hs.length ≤ 60
    · have d2 : decide ((60 : Int) < (hs.length : Int)) = false := decide_eq_false (by omega)
      by_cases hDv : lv.length ≤ 40
      · have d3 : decide ((40 : Int) < (lv.length : Int)) = false := decide_eq_false (by omega)
        have HSm := hid (show Sm w (.agg #[.int .i64 a0, .slice p0 len0 cap0]) a0 l0 from ⟨_, rfl, hraw, ha0, hl0, by omega⟩)
        have HST := hid (fun w' (hu : Up w w') => seat_any n d hn hd (show Vh w' (.slice ph hs.length ch) hs from ⟨ph, ch, rfl, fun i hi => by obtain ⟨a, h1, h2⟩ := hhc i hi; exact ⟨a, h1, hu.cellEq h2⟩⟩) h16 hC)
        clear hraw ha0 hl0 hhc h16 hg hlen hn hd
        have HIV := hid hIv
        have HLV := hid hDv
        have HIQ := hid hiq
        clear hIv hDv hiq
        go_enter Tryz.func6, Tryz.ntmps6
        go_upto_region 6 with (first
          | ((with_reducible apply ldM_P); exact rfl; exact rfl; exact hB; exact rfl)
          | (go_at_call 24; (with_reducible refine (HK.out _ hU).mono ?_); rintro r w1 ⟨rfl, hu1⟩; have hB1 := hB.up hu1; have hU1 := hU.trans hu1; have hc1 := hB1.cell 1 rfl)
          | (go_at_call 8; (with_reducible refine (HST.out _ hU1).mono ?_); rintro r w2 ⟨z, N, L, rfl, hu2, hs2, hR⟩; obtain ⟨m0, m8, -, -⟩ := rt_spec hR; obtain ⟨m, rfl⟩ : ∃ m : Nat, N = (m : Int) := ⟨N.toNat, by omega⟩; have hs2' := hs2; obtain ⟨s, base, rfl, hO2, hr2⟩ := hs2'; obtain ⟨p2, n2, c2, rfl⟩ := OwnI.slice hO2)
          | ((with_reducible apply stM_P); exact rfl; exact rfl; exact Blk.new _ _ rfl; exact rfl; exact rfl; exact two2 _ _ _ _ _
             refine wpL_folded (fun wd => Up w2 wd ∧ Blk wd w2.heap.size 24 #[.int .i64 (m : Int), .slice p2 n2 c2] ∧ SmO wd (.agg #[.int .i64 (m : Int), .slice p2 n2 c2]) m L) ⟨gUp, gBlk, (hs2.up (Up.alloc _ _)).setRow (Blk.new _ _ rfl)⟩ ?_
             rintro w3 ⟨hu3, hb3, hs3⟩))
        have hU3 := hU1.trans (hu2.trans hu3)
        have hB3 := hB1.up (hu2.trans hu3)
        have HM8 := hid (show m ≤ 8 by omega)
        obtain ⟨b13, hb13⟩ : ∃ y, w2.heap.size = y := ⟨_, rfl⟩
        rw [hb13] at hb3 ⊢
        have HS3 := hid hs3.sm
        clear hu1 hu2 hu3 hs2 hO2 hB hU hU1 hB1 hW0 hc1 hb13 hs3 hR hr2 m0 m8 HST HK d1 d2 d3
        try simp only [Act.put]
        go_upto_region 7 with (first
          | ((with_reducible apply ldM_P); exact rfl; exact rfl; (first | exact hB3 | exact hb3); exact rfl))
        refine wp_foldT (fun wd => Up w3 wd ∧ Blk wd w3.heap.size 24 #[.int .i64 a0, .slice p0 len0 cap0, .int .i64 (m : Int), .slice p2 n2 c2]) ⟨Up.alloc _ _, Blk.new _ _ rfl⟩ (fun wE hE => ?_)
        obtain ⟨hUE, hP⟩ := hE
        obtain ⟨g1, hg1⟩ : ∃ y, w3.heap.size = y := ⟨_, rfl⟩
        rw [hg1] at hP ⊢
        have hU9 := hU3.trans hUE
        have HMM : Hid (∀ k, k < 2 → ∃ NM pM nM cM LM, (∀ w', Up wE w' → w'.cell? ⟨g1, k * 2, none⟩ = some (.int .i64 NM) ∧ w'.cell? ⟨g1, k * 2 + 1, none⟩ = some (.slice pM nM cM)) ∧ Sm wE (.agg #[.int .i64 NM, .slice pM nM cM]) NM LM) := hid (fun k hk => by
          rcases k with _ | _ | k
          · exact ⟨a0, p0, len0, cap0, l0, fun w' hu => ⟨(hP.up hu).cell 0 rfl, (hP.up hu).cell 1 rfl⟩, HSm.out.up hU9⟩
          · exact ⟨m, p2, n2, c2, L, fun w' hu => ⟨(hP.up hu).cell 2 rfl, (hP.up hu).cell 3 rfl⟩, HS3.out.up hUE⟩
          · omega)
        have HGE := hid (fun w' (hu : Up wE w') => HG.out w' (hU9.trans hu))
        have HVE := hid (fun w' (hu : Up wE w') => HVV.out w' (hU9.trans hu))
        have HU9 := hid hU9
        have hbE := hb3.up hUE
        clear hg1 hUE hP hB3 hb3 HSm HS3 hU3 hU9 HG HVV
        go_loopg [52] 2 (fun g tk wr => ∃ k : Nat, k ≤ 2 ∧ 2 - k ≤ g ∧ tk = .int .i64 (k : Nat) ∧ Up wE wr)
        case atStart => exact ⟨0, by omega, by omega, rfl, Up.refl _⟩
        case round =>
          obtain ⟨k, hk, hkg, rfl, hu⟩ := hrel
          by_cases hlt : k < 2
          · obtain ⟨NM, pM, nM, cM, LM, hcM, hSM⟩ := HMM.out k hlt
            obtain ⟨hcx0, hcx1⟩ := hcM _ hu
            have HSM0 := hid hSM
            have dk : decide ((k : Int) < 2) = true := decide_eq_true (by omega)
            clear hcM hSM
            go_upto_region 9 with (first
              | ((with_reducible apply stM_P); exact rfl; exact rfl; exact Blk.new _ _ rfl; exact rfl; exact rfl; exact two2 _ _ _ _ _))
            refine wp_foldT (fun wd => Up wr wd ∧ Blk wd wr.heap.size 24 #[.int .i64 NM, .slice pM nM cM]) ⟨gUp, gBlk⟩ (fun wA hA => ?_)
            obtain ⟨huA, hbm⟩ := hA
            have hUA := hu.trans huA
            obtain ⟨bm, hbm9⟩ : ∃ x, wr.heap.size = x := ⟨_, rfl⟩
            rw [hbm9] at hbm ⊢
            have HSA := hid (HSM0.out.up hUA)
            have hbA := hbE.up hUA
            clear hcx0 hcx1 hu huA hbm9 HSM0
            have HVA := hid (fun w' (hu : Up wA w') => HVE.out w' (hUA.trans hu))
            have HGA := hid (fun w' (hu : Up wA w') => HGE.out w' (hUA.trans hu))
            have HUA := hid hUA
            clear hUA hbE
            go_upto_if 59 with fail
            go_cut [16] (fun t16 wc => ∃ p c X, t16 = .slice p X.length c ∧ Vw wc (.slice p X.length c) X ∧ In64 X ∧ X.length ≤ 60 ∧ Up wA wc)
            case first =>
              obtain rfl | rfl : k = 0 ∨ k = 1 := by omega
              · go_wp2_with fail
                go_meet
                exact ⟨pv, cv, lv, rfl, HVA.out _ (Up.refl _), HIV.out, by have := HLV.out; omega, Up.refl _⟩
              · have hl60 : lv.length ≤ 60 := by have := HLV.out; omega
                have HVc := hid (fun w' (hu : Up wA w') => vec_any (p := p2) (nn := n2) (cc := c2) m true rfl HM8.out (HVA.out w' hu) HIV.out hl60)
                go_wp2_with (first
                  | ((with_reducible apply ldM_P); exact rfl; exact rfl; exact hbA; exact rfl)
                  | (go_at_call 25; (with_reducible refine (HVc.out _ (Up.refl _)).mono ?_); rintro r w4 ⟨z4, b4, rfl, hu4, hb4, hO4⟩; obtain ⟨p4, n4, c4, rfl⟩ := OwnI.slice hO4))
                go_meet
                obtain rfl : n4 = (vecL lv true m).length := by
                  obtain ⟨p, c, e, _⟩ := OwnI.vw hO4
                  injection e
                exact ⟨p4, c4, vecL lv true m, rfl, hO4.vw, vecL_in HIV.out true m (by have := HM8.out; omega), by rw [vecL_len]; have := HM8.out; omega, hu4⟩
            case rest =>
              obtain ⟨px, cx, X, rfl, hVX, hIX, hX60, hUc⟩ := hcut
              have hbc := hbm.up hUc
              have HSc := hid (HSA.out.up hUc)
              have HSl := hid (HSc.out)
              have HQu := hid (fun w' (hu : Up wc w') => quad_any (HSc.out.up hu) (hVX.up hu) hIX (by omega))
              have HRQ := hid (fun w' (hu : Up wc w') => rquad_any (HSc.out.up hu) (hVX.up hu) hIX (by omega))
              have HGc := hid (fun w' (hu : Up wc w') => HGA.out w' (hUc.trans hu))
              have HUc := hid (HUA.out.trans hUc)
              have HQb := hid (qu_bounds (N := NM) (l := LM) (x := X))
              have HQ0 := hid (qu_none (N := NM) (l := LM) (x := X))
              clear hVX hIX hX60 hUc HSc hbA hbm HSA HVA HGA HUA
              unfold QuadPost at HQu
              unfold RQuadPost at HRQ
              generalize quN NM LM X = QN at *
              generalize quD NM LM X = QD at *
              generalize slC NM LM X = S at *
              go_upto_region 14 with (first
                | ((with_reducible apply ldM_P); exact rfl; exact rfl; (first | exact hbc | exact hbc.up (hu1.trans hu2)); exact rfl)
                | (go_at_call 33; (with_reducible refine (HQu.out _ (Up.refl _)).mono ?_); rintro r w1 ⟨u1, rfl, hu1, he1⟩)
                | ((with_reducible apply stF_P (z := QN) (D := QD)); exact rfl; exact rfl; exact Blk.new _ _ rfl; exact rfl
                   refine wpL_folded (fun wd => Up w1 wd ∧ Blk wd w1.heap.size 73 (fA QN QD) ∧ ErrsP solveB wd u1 S) ⟨below_setRow (Up.alloc _ _) (Nat.le_refl _) _, Blk.setRow (Blk.new _ _ rfl) _, (he1.up (Up.alloc _ _)).setRowF (Blk.new _ _ rfl)⟩ ?_
                   rintro w2 ⟨hu2, hbQ, he2⟩)
                | (go_at_call 34; (with_reducible refine (HRQ.out _ (hu1.trans hu2)).mono ?_); rintro r w3 ⟨rb, rp, rn, rc, rb', rp', rn', rc', rfl, hu3, hbg⟩)
                | ((with_reducible apply stRF_P); exact rfl; exact rfl; exact Blk.new _ _ rfl; exact rfl
                   refine wpL_folded (fun wd => Up w3 wd ∧ Blk wd w3.heap.size 77 #[.bool rb, .slice rp rn rc, .bool rb', .slice rp' rn' rc']) ⟨below_setRow (Up.alloc _ _) (Nat.le_refl _) _, Blk.setRow (Blk.new _ _ rfl) _⟩ ?_
                   rintro w4 ⟨hu4, hbR⟩))
              have hU4 := (hu1.trans hu2).trans (hu3.trans hu4)
              have hbQ4 := hbQ.up (hu3.trans hu4)
              have he4 := he2.up (hu3.trans hu4)
              have hb4 := hbc.up hU4
              have hS4 := hid (HSl.out.up hU4)
              have hbg4 := hid (fun h => (And.intro ((hbg h).1.up hu4) ((hbg h).2.up hu4)))
              have HG4 := hid (fun w' (hu : Up w4 w') => HGc.out w' (hU4.trans hu))
              have HU4 := hid (HUc.out.trans hU4)
              obtain ⟨bQ, hbQe⟩ : ∃ y, w1.heap.size = y := ⟨_, rfl⟩
              rw [hbQe] at hbQ4 ⊢
              obtain ⟨bR, hbRe⟩ : ∃ y, w3.heap.size = y := ⟨_, rfl⟩
              rw [hbRe] at hbR ⊢
              clear hu1 hu2 hu3 hu4 he1 he2 hbg hbQ hbQe hbRe hbc hU4 HGc HUc HSl HQu HRQ
              try simp only [Act.put]
              go_cut [97] (fun t97 wc => t97 = .bool false ∧ Up w4 wc)
              case first =>
                by_cases h0 : S = 0
                · subst h0
                  obtain ⟨hz, hD⟩ := hbg4.out rfl
                  have HFr := hid (fun w' (hu : Up w4 w') => help_frac (hz.up hu) (hD.up hu) (HQb.out rfl).1 (HQb.out rfl).2)
                  clear hz hD hbg4
                  go_wp2_with (first
                    | ((with_reducible apply ldF_P (z := QN) (D := QD)); exact rfl; exact rfl; exact blkF_range (hbQ4.up hu5))
                    | ((with_reducible apply ldRF_P); exact rfl; exact rfl; exact hbR.up hu5)
                    | (go_at_call 30; (with_reducible refine (ssays_any he4 (HG4.out _ (Up.refl _))).mono ?_); rintro r w5 ⟨rfl, hu5⟩)
                    | (go_at_call 35; (with_reducible refine (HFr.out _ hu5).mono ?_); rintro r w6 ⟨rfl, hu6⟩))
                  go_meet
                  exact ⟨rfl, hu5.trans hu6⟩
                · obtain ⟨rfl, rfl⟩ := HQ0.out h0
                  have d0 : (S == 0) = false := by simpa using h0
                  have d1 : (S != 0) = true := by simpa using h0
                  clear h0 hbg4
                  go_wp2_with (first
                    | ((with_reducible apply ldF_P (z := 0) (D := 0)); exact rfl; exact rfl; exact blkF_range (hbQ4.up hu5))
                    | ((with_reducible apply bdF0_P); exact rfl)
                    | ((with_reducible apply neF_P (z := 0) (D := 0)); exact rfl; exact rfl; exact rfl)
                    | (go_at_call 30; (with_reducible refine (ssays_any he4 (HG4.out _ (Up.refl _))).mono ?_); rintro r w5 ⟨rfl, hu5⟩))
                  go_meet
                  exact ⟨rfl, hu5⟩
              case rest =>
                obtain ⟨rfl, hcut⟩ := hcut
                have hU5 := HU4.out.trans hcut
                have hb5 := hb4.up hcut
                have HS5 := hid (hS4.out.up hcut)
                have HG5 := hid (fun w' (hu : Up wc w') => HG4.out w' (hcut.trans hu))
                have HU5 := hid hU5
                clear hcut hb4 hS4 HG4 HU4 hbQ4 he4 hbR hbg4 hU5 HQb HQ0
                go_upto_region 17 with fail
                have hi7 := bits_in BinOp.and iq 7
                obtain ⟨i7, hi7e⟩ : ∃ y, bits BinOp.and IntKind.i64 iq 7 = y := ⟨_, rfl⟩
                rw [hi7e] at hi7 ⊢
                refine wp_foldT (fun wd => Up wc wd ∧ Blk wd wc.heap.size 3 #[.int .i64 iq, .int .i64 i7]) ⟨Up.alloc _ _, Blk.new _ _ rfl⟩ (fun w6 h6 => ?_)
                obtain ⟨hu6, hb6⟩ := h6
                obtain ⟨g2, hg2⟩ : ∃ y, wc.heap.size = y := ⟨_, rfl⟩
                rw [hg2] at hb6 ⊢
                have HJ : Hid (∀ k, k < 2 → ∃ j, I64 j ∧ ∀ w', Up w6 w' → w'.cell? ⟨g2, k, none⟩ = some (.int .i64 j)) := hid (fun k hk => by
                  rcases k with _ | _ | k
                  · exact ⟨iq, HIQ.out, fun w' hu => (hb6.up hu).cell 0 rfl⟩
                  · exact ⟨i7, hi7, fun w' hu => (hb6.up hu).cell 1 rfl⟩
                  · omega)
                have hb7 := hb5.up hu6
                have HS6 := hid (HS5.out.up hu6)
                have HG6 := hid (fun w' (hu : Up w6 w') => HG5.out w' (hu6.trans hu))
                have HU6 := hid (HU5.out.trans hu6)
                clear hu6 hb6 hb5 HS5 HG5 HU5 hi7 hi7e hg2
                go_loopg [103] 2 (fun g tk wr => ∃ k : Nat, k ≤ 2 ∧ 2 - k ≤ g ∧ tk = .int .i64 (k : Nat) ∧ Up w6 wr)
                case atStart => exact ⟨0, by omega, by omega, rfl, Up.refl _⟩
                case round =>
                  obtain ⟨kk, hkk, hkkg, rfl, hu⟩ := hrel
                  by_cases hlt2 : kk < 2
                  · obtain ⟨jj, hj64, hcj⟩ := HJ.out kk hlt2
                    have hcx := hcj _ hu
                    have dk2 : decide ((kk : Int) < 2) = true := decide_eq_true (by omega)
                    have HCo := hid (fun w' (hu : Up w6 w') => column_any jj (HS6.out.up hu) hj64)
                    have HRR := hid (fun w' (hu : Up w6 w') => rright_any (HS6.out.up hu))
                    have hbr := hb7.up hu
                    clear hcj hj64
                    cases hR : rt NM LM with
                    | false =>
                      rw [hR] at HRR
                      have HCo2 := hid (fun w' (hu : Up w6 w') => (HCo.out w' hu).mono fun _ _ h => col_wrong h hR)
                      clear hR HCo
                      go_wp2_with (first
                        | ((with_reducible apply ldM_P); exact rfl; exact rfl; (first | exact hbr | exact hbr.up hu1); exact rfl)
                        | (go_at_call 36; (with_reducible refine (HCo2.out _ hu).mono ?_); rintro r w1 ⟨u1, rfl, hu1, he1⟩)
                        | (go_at_call 12; (with_reducible refine (HRR.out _ (hu.trans hu1)).mono ?_); rintro r w2 ⟨rfl, hu2⟩)
                        | (go_at_call 30; (with_reducible refine (ssays_any (he1.up hu2) (HG6.out _ ((hu.trans hu1).trans hu2))).mono ?_); rintro r w3 ⟨rfl, hu3⟩))
                      go_roundg (2 - (kk + 1))
                      case measure => omega
                      case rel => exact ⟨kk + 1, by omega, Nat.le_refl _, rfl, ((hu.trans hu1).trans hu2).trans hu3⟩
                    | true =>
                      obtain ⟨n0, n8, -, -⟩ := rt_spec hR
                      obtain ⟨nn, rfl⟩ : ∃ m : Nat, NM = (m : Int) := ⟨NM.toNat, by omega⟩
                      rw [hR] at HRR
                      by_cases hin : 0 ≤ jj ∧ jj < (nn : Int)
                      · obtain ⟨a, rfl⟩ : ∃ a : Nat, jj = (a : Int) := ⟨jj.toNat, by omega⟩
                        have ha : a < nn := by omega
                        have HCo2 := hid (fun w' (hu : Up w6 w') => (HCo.out w' hu).mono fun _ _ h => col_in h hR ha)
                        have HEx := hid (fun w' (hu : Up w6 w') (xv : Value) (hx : Vw w' xv (unitL nn a)) => rexact_any (HS6.out.up hu) hx (unit_in nn a) (by rw [unit_len]; omega))
                        obtain ⟨e8, eb, ed⟩ := ex_bounds nn LM (unitL nn a)
                        have HFr := hid (fun w' vf vr (hf : Fv w' vf (slD nn LM) (exL nn LM (unitL nn a))) (hr : RFv w' vr (slD nn LM) (exL nn LM (unitL nn a))) => help_fracs hf hr eb ed (by omega))
                        have d1 : decide ((a : Int) < 0) = false := decide_eq_false (by omega)
                        have d2 : decide ((nn : Int) ≤ (a : Int)) = false := decide_eq_false (by omega)
                        unfold RExactPost at HEx
                        rw [show slD (nn : Int).toNat LM = slD nn LM from rfl] at HEx
                        generalize slD nn LM = D at *
                        generalize exL (nn : Int) LM (unitL nn a) = EL at *
                        generalize slC (nn : Int) LM (unitL nn a) = S2 at *
                        clear hR HCo e8 eb ed hin
                        go_upto_region 27 with (first
                          | ((with_reducible apply ldM_P); exact rfl; exact rfl; (first | exact hbr | exact hbr.up hu1); exact rfl)
                          | (go_at_call 36; (with_reducible refine (HCo2.out _ hu).mono ?_); rintro r w1 ⟨z1, u1, rfl, hu1, he1, hF1⟩)
                          | (go_at_call 12; (with_reducible refine (HRR.out _ (hu.trans hu1)).mono ?_); rintro r w2 ⟨rfl, hu2⟩; have hb2 := hbr.up (hu1.trans hu2); have hcm := hb2.cell 0 rfl)
                          | ((with_reducible apply mkI); exact rfl; (focus omega); (focus omega); rintro g mm cc w5 hO5 hu5))
                        have hU5 := ((hu.trans hu1).trans hu2).trans hu5
                        have hB5 := hb2.up hu5
                        have hml : (List.replicate nn (0 : Int)).length = nn := List.length_replicate
                        rw [Int.toNat_natCast] at hO5
                        obtain ⟨g', cap', C5, hv5, hbg, -, -, -, -, -⟩ := hO5.open (by rw [hml]; omega)
                        rw [hml] at hv5
                        injection hv5 with x1 x2 x3
                        injection x1 with x1
                        injection x1 with x1
                        have x2' := x2.symm
                        subst x1 x2' x3
                        obtain ⟨hcW, hfW⟩ := hO5.cells (k := a) (by rw [hml]; exact ha)
                        have hset := hO5.set (k := a) (by rw [hml]; exact ha) 1
                        rw [unit_set] at hset
                        have gUw : Up w2 (w5.setCell ⟨g, a, none⟩ (.int .i64 1)) := bl_setCell (show w2.heap.size ≤ g by omega) hu5
                        have gB := hb2.up gUw
                        have gU := ((hu.trans hu1).trans hu2).trans gUw
                        have HXd := hid (HEx.out _ gU _ hset.vw)
                        have he1' := he1.up (hu2.trans gUw)
                        have hF1' := hF1.up (hu2.trans gUw)
                        obtain ⟨wK, hwK⟩ : ∃ y, w5.setCell ⟨g, a, none⟩ (.int .i64 1) = y := ⟨_, rfl⟩
                        rw [hwK] at gUw gB gU HXd he1' hF1'
                        obtain ⟨pz1, cz1, rfl⟩ := hF1'.slice
                        clear hset hO5 hB5 hU5 hbg hcm hb2 he1 hF1 hu1 hu2 hu5 gUw hml
                        go_wp2_with (first
                          | ((with_reducible apply ldM_P); exact rfl; exact rfl; exact gB; exact rfl)
                          | (go_at_call 27; (with_reducible refine HXd.out.mono ?_); rintro r w8 ⟨z8, rfl, hu8, hF8⟩)
                          | (go_at_call 30; (with_reducible refine (ssays_any (he1'.up hu8) (HG6.out _ (gU.trans hu8))).mono ?_); rintro r w9 ⟨rfl, hu9⟩)
                          | (go_at_call 31; (with_reducible refine (HFr.out _ _ _ (hF1'.up (hu8.trans hu9)) (hF8.up hu9)).mono ?_); rintro r w10 ⟨rfl, hu10⟩))
                        go_roundg (2 - (kk + 1))
                        case measure => omega
                        case rel => exact ⟨kk + 1, by omega, Nat.le_refl _, rfl, ((gU.trans hu8).trans hu9).trans hu10⟩
                      · have HCo2 := hid (fun w' (hu : Up w6 w') => (HCo.out w' hu).mono fun _ _ h => col_out h hR hin)
                        by_cases h0 : jj < 0
                        · have d1 : decide (jj < 0) = true := decide_eq_true h0
                          clear hR HCo hin h0
                          go_wp2_with (first
                            | ((with_reducible apply ldM_P); exact rfl; exact rfl; (first | exact hbr | exact hbr.up hu1); exact rfl)
                            | (go_at_call 36; (with_reducible refine (HCo2.out _ hu).mono ?_); rintro r w1 ⟨u1, rfl, hu1, he1⟩)
                            | (go_at_call 12; (with_reducible refine (HRR.out _ (hu.trans hu1)).mono ?_); rintro r w2 ⟨rfl, hu2⟩)
                            | (go_at_call 30; (with_reducible refine (ssays_any (he1.up hu2) (HG6.out _ ((hu.trans hu1).trans hu2))).mono ?_); rintro r w3 ⟨rfl, hu3⟩))
                          go_roundg (2 - (kk + 1))
                          case measure => omega
                          case rel => exact ⟨kk + 1, by omega, Nat.le_refl _, rfl, ((hu.trans hu1).trans hu2).trans hu3⟩
                        · have d1 : decide (jj < 0) = false := decide_eq_false h0
                          have d2 : decide ((nn : Int) ≤ jj) = true := decide_eq_true (by omega)
                          clear hR HCo hin h0
                          go_wp2_with (first
                            | ((with_reducible apply ldM_P); exact rfl; exact rfl; (first | exact hbr | exact hbr.up hu1); exact rfl)
                            | (go_at_call 36; (with_reducible refine (HCo2.out _ hu).mono ?_); rintro r w1 ⟨u1, rfl, hu1, he1⟩)
                            | (go_at_call 12; (with_reducible refine (HRR.out _ (hu.trans hu1)).mono ?_); rintro r w2 ⟨rfl, hu2⟩; have hcm := (hbr.up (hu1.trans hu2)).cell 0 rfl)
                            | (go_at_call 30; (with_reducible refine (ssays_any (he1.up hu2) (HG6.out _ ((hu.trans hu1).trans hu2))).mono ?_); rintro r w3 ⟨rfl, hu3⟩))
                          go_roundg (2 - (kk + 1))
                          case measure => omega
                          case rel => exact ⟨kk + 1, by omega, Nat.le_refl _, rfl, ((hu.trans hu1).trans hu2).trans hu3⟩
                  · obtain rfl : kk = 2 := by omega
                    go_wp2_with fail
                    go_roundg (2 - (k + 1))
                    case measure => omega
                    case rel => exact ⟨k + 1, by omega, Nat.le_refl _, rfl, HU6.out.trans hu⟩
          · obtain rfl : k = 2 := by omega
            go_wp2_with fail
            go_ret
            exact ⟨rfl, HU9.out.trans hu⟩
      · have d3 : decide ((40 : Int) < (lv.length : Int)) = true := decide_eq_true (by omega)
        clear hraw ha0 hl0 hhc h16 hg hlen hn hd hIv hiq
        go_enter Tryz.func6, Tryz.ntmps6
        go_wp2_with (first
          | ((with_reducible apply ldM_P); exact rfl; exact rfl; exact hB; exact rfl)
          | (go_at_call 24; (with_reducible refine (HK.out _ hU).mono ?_); rintro r w1 ⟨rfl, hu1⟩; replace hB := hB.up hu1; replace hU := hU.trans hu1; have hc1 := hB.cell 1 rfl))
        go_ret
        exact ⟨rfl, hU⟩
    · have d2 : decide ((60 : Int) < (hs.length : Int)) = true := decide_eq_true (by omega)
      clear hraw ha0 hl0 hhc h16 hg hlen hn hd hIv hiq
      go_enter Tryz.func6, Tryz.ntmps6
      go_wp2_with (first
        | ((with_reducible apply ldM_P); exact rfl; exact rfl; exact hB; exact rfl)
        | (go_at_call 24; (with_reducible refine (HK.out _ hU).mono ?_); rintro r w1 ⟨rfl, hu1⟩; replace hB := hB.up hu1; replace hU := hU.trans hu1; have hc1 := hB.cell 1 rfl))
      go_ret
      exact ⟨rfl, hU⟩
  · have d1 : decide ((60 : Int) < (len0 : Int)) = true := decide_eq_true (by omega)
    clear hraw ha0 hl0 hhc h16 hg hlen hn hd hIv hiq
    go_enter Tryz.func6, Tryz.ntmps6
    go_wp2_with (first
      | ((with_reducible apply ldM_P); exact rfl; exact rfl; exact hB; exact rfl)
      | (go_at_call 24; (with_reducible refine (HK.out _ hU).mono ?_); rintro r w1 ⟨rfl, hu1⟩; replace hB := hB.up hu1; replace hU := hU.trans hu1; have hc1 := hB.cell 1 rfl))
    go_ret
    exact ⟨rfl, hU⟩
theorem quads7_row {w : World} {a0 a1 a2 a5 : Int} {p0 p3 p4 : Option Addr} {len0 cap0 len3 cap3 len4 cap4 : Nat} {z0 z3 z4 : List Int} (hg : Glob w) (wf0 : (Lit.int .i64 a0).wf = true) (w0 : IsRowX .i64 w p0 len0 cap0 z0)
    (w1 : (Lit.int .u8 a1).wf = true) (w2 : (Lit.int .u16 a2).wf = true) (w3 : IsRowX .i16 w p3 len3 cap3 z3) (w4 : IsRowX .i64 w p4 len4 cap4 z4) (w5 : (Lit.int .i64 a5).wf = true) :
    Calls Tryz.prog 6 #[.agg #[.int .i64 a0, .slice p0 len0 cap0], .int .u8 a1, .int .u16 a2, .slice p3 len3 cap3, .slice p4 len4 cap4, .int .i64 a5] w fun r w' => r = .returned (.bool true) ∧ Up w w' := by
  obtain ⟨n, rfl, hn⟩ := wf_nat (m := 255) w1 IntKind.min_u8 IntKind.max_u8
  obtain ⟨d, rfl, hd⟩ := wf_nat (m := 65535) w2 IntKind.min_u16 IntKind.max_u16
  exact quads7_w n d a5 hg (vw_row w0).1 (wf_i64 wf0) (vw_row w0).2 hn hd (vh_row w3).1 (vh_row w3).2 (vw_row w4).1 (vw_row w4).2 (wf_i64 w5)
end Go.Proofs.YtnpaodlhhcnbgaaGreatDoor
namespace Go.Proofs.YtnpaodlhhcnbgaaGreatDoor
open Go.ChangeShapes Go.WideShapes Go.RowKit
set_option maxRecDepth 100000
theorem own4 : ownKnob Tryz.prog.godebug = none := by kernel_rfl
theorem et4 : Tryz.prog.globalNamed "errors.errorType" = some 0 := by kernel_rfl
theorem rt4 : (Tryz.prog.cutTypes.find? (·.1 == "internal/reflectlite.rtype")).map (·.2) = some 189 := by kernel_rfl
theorem oneRow4 : ((List.range 241).filter fun t => Tryz.prog.rowNamed t [101, 114, 114, 111, 114]) = [35] := by kernel_rfl
theorem size4 : Tryz.prog.types.size = 241 := by kernel_rfl
theorem glob_of_laid {W : World} (h : laidMetH Tryz.prog [("errors.errorType", Rows.laid_errors_errorType)] W) : Glob W := by
  have h' : laidMet Tryz.prog [] W ∧ handlesMet Tryz.prog [("errors.errorType", Rows.laid_errors_errorType)] W := h
  obtain ⟨name, u, ty, e1, e2, e3, e4, e5⟩ := h'.2 _ (List.mem_singleton.2 rfl)
  have en : name = [101, 114, 114, 111, 114] := (Option.some.inj e1).symm
  subst en
  obtain rfl := Option.some.inj (rt4.symm.trans e2)
  have hm : ty ∈ (List.range 241).filter fun t => Tryz.prog.rowNamed t [101, 114, 114, 111, 114] := List.mem_filter.2 ⟨List.mem_range.2 (by rw [← size4]; exact e3), e4⟩
  rw [oneRow4] at hm
  obtain rfl := List.mem_singleton.1 hm
  have hh : typeHandle Tryz.prog 35 = .pointer (some ⟨3, 35, none⟩) := by kernel_rfl
  rw [hh] at e5
  unfold Glob
  simpa using World.var?_cell et4 e5 0
noncomputable def laidWorld (os : Os) : World :=
  let w0 := World.holding Tryz.prog os ⟨#[], #[], []⟩
  { w0 with heap := w0.heap.modify 0 fun
      | .cells _ t frozen => .cells #[.iface 189 (.agg #[.pointer (some ⟨3, 35, none⟩)])] t frozen
      | o => o }
theorem laidWorld_met (os : Os) (args : Array Value) : laidMetH Tryz.prog [("errors.errorType", Rows.laid_errors_errorType)] ((laidWorld os).forCall (fun _ _ => 0) ⟨#[], args, []⟩).memory :=
  laidMetH_of_parts (laidMet_nil _ _) (by kernel_rfl)
end Go.Proofs.YtnpaodlhhcnbgaaGreatDoor
