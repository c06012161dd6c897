import Derived.Test.YtnpaodlhhcnbgaaGreatDoorPg
import Derived.DataShut
import Derived.Deep.DeepCutAuto
import Derived.Test.YtnpaodlhhcnbgaaGreatDoorRows
import Derived.Test.YtnpaodlhhcnbgaaGreatDoorTie
import Derived.ChangeSame
import Derived.ChangeVars
import Derived.JoinedOf
import Derived.RowKit
import Derived.RowKitTokens
import Derived.LaidLaws
import Derived.LaidHandle
import Derived.Stop.Joined
import Derived.ChangeMaps5
import Derived.SevenTiedAt
namespace Go.Proofs.YtnpaodlhhcnbgaaGreatDoor
open Go Go.RowKit
set_option maxRecDepth 100000
def RExactPost (w : World) (N : Int) (l x : List Int) (r : Ending) (w' : World) : Prop := ∃ z, r = .returned (.tuple #[z, .int .i64 (slC N l x)]) ∧ Up w w' ∧ RFv w' z (slD N.toNat l) (exL N l x)
theorem rfv_nil (w : World) (D : Int) : RFv w (.slice none 0 0) D [] := .inl ⟨rfl, _, _, rfl⟩
set_option maxHeartbeats 8000000 in
theorem rexact_bad {v xv : Value} {N : Int} {l x : List Int} {w : World} (hm : Sm w v N l) (hx : Vw w xv x) (hI : In64 x) (hs : x.length ≤ 1000) (hC : slC N l x ≠ 0) :
    Calls Tryz.prog 27 #[v, xv] w (RExactPost w N l x) := by
  have HFi := hid (fun w' (hu : Up w w') => rfine_any ((hm.up hu).up (Up.alloc _ _)) (lv_one (hx.up hu)) (fun i => by rcases i with _ | i; exact hI; exact fun j hj => absurd hj (Nat.not_lt_zero _)) (fun i => by rcases i with _ | i; exact hs; exact Nat.zero_le _) (show 1 ≤ 9 by decide))
  have HDf := hid (fun w' (hu : Up w w') => rDefinite_any (hm.up hu))
  obtain ⟨px, cx, rfl, -, -⟩ := hx
  obtain ⟨s0, rfl, ⟨p, cap, rfl, -, -⟩, -, -, -⟩ := hm
  obtain ⟨W0, hW0⟩ : ∃ W0, w.alloc (.cells #[.int .i64 N, .slice p l.length cap] 24) = W0 := ⟨_, rfl⟩
  have hB : Blk W0 w.heap.size 24 #[.int .i64 N, .slice p l.length cap] := by rw [← hW0]; exact Blk.new _ _ rfl
  have hU : Up w W0 := by rw [← hW0]; exact Up.alloc _ _
  unfold RExactPost
  rw [show exL N l x = [] from if_neg hC]
  by_cases hF : ftC N l [x] = 0
  · have hD : dfV N l = false := by
      unfold slC at hC
      rw [if_pos hF] at hC
      cases h : dfV N l with
      | false => rfl
      | true => rw [h] at hC; exact absurd rfl hC
    rw [show slC N l x = 30 from by unfold slC; rw [if_pos hF, hD]; rfl]
    rw [hF] at HFi
    rw [hD] at HDf
    clear hF hD hC hI hs
    go_enter Tryz.func27, Tryz.ntmps27
    go_wp2_with (first
      | ((with_reducible apply ldM_P); exact rfl; exact rfl; (first | exact hB | exact hB1); exact rfl)
      | (go_at_call 63; (with_reducible refine (HFi.out _ hU).mono ?_); rintro r w1 ⟨rfl, hu1⟩; have hU1 := hU.trans ((Up.alloc _ _).trans hu1); have hB1 := hB.up ((Up.alloc _ _).trans hu1))
      | (go_at_call 19; (with_reducible refine (HDf.out _ hU1).mono ?_); rintro r w2 ⟨rfl, hu2⟩))
    go_ret2
    exact ⟨_, rfl, hU1.trans hu2, rfv_nil _ _⟩
  · rw [show slC N l x = ftC N l [x] from by unfold slC; rw [if_neg hF]]
    obtain ⟨C, hC2⟩ : ∃ C, ftC N l [x] = C := ⟨_, rfl⟩
    rw [hC2] at HFi hF ⊢
    have d0 : (C != 0) = true := by simpa using hF
    clear hF hC hI hs hC2
    go_enter Tryz.func27, Tryz.ntmps27
    go_wp2_with (first
      | ((with_reducible apply ldM_P); exact rfl; exact rfl; exact hB; exact rfl)
      | (go_at_call 63; (with_reducible refine (HFi.out _ hU).mono ?_); rintro r w1 ⟨rfl, hu1⟩; have hU1 := hU.trans ((Up.alloc _ _).trans hu1)))
    go_ret2
    exact ⟨_, rfl, hU1, rfv_nil _ _⟩
theorem grown_below {w w' : World} {row b : Nat} (hg : w.grownBy w' (some row)) (hb : b ≤ row) (hs : b ≤ w.heap.size) : Below b w w' :=
  ⟨hg.os, hg.tape, hg.output, hg.size, fun k hk => hg.block k (by omega) (fun e => by injection e with e; omega)⟩
theorem run_buildRF (b b' : Bool) (p p' : Option Addr) (m k m' k' : Nat) (w : World) : (Instr.build 77 #[(0, .agg #[.bool b, .slice p m k]), (1, .agg #[.bool b', .slice p' m' k'])]).run Tryz.prog w = .ok (.agg #[.bool b, .slice p m k, .bool b', .slice p' m' k']) w := by kernel_rfl
theorem run_bdRF {o : Oper} {ev : Operand → Value} {x y : Operand} {b b' : Bool} {p p' : Option Addr} {m k m' k' : Nat} (ho : o.op = .build 77 #[(0, x), (1, y)]) (hx : ev x = .agg #[.bool b, .slice p m k]) (hy : ev y = .agg #[.bool b', .slice p' m' k']) (w : World) :
    (execOp ev o).run Tryz.prog w = .ok (.value (.agg #[.bool b, .slice p m k, .bool b', .slice p' m' k'])) w := by
  unfold execOp
  simp only [ho, List.map_toArray, List.map_cons, List.map_nil, hx, hy, Sem.run_bind, run_buildRF, Result.andThen_ok, Sem.run_pure]
def EXR (w : World) (n bP : Nat) (CS : Array Value) (A : Nat → Nat → Int) (t7 : Value) (k : Nat) (wr : World) : Prop :=
  ∃ base G V b0 p0 n0 c0, OwnM wr base t7 n (n + 1) G V ∧ Gj n k (gs A k).2 V ∧ Blk wr w.heap.size 24 CS ∧ Blk wr bP 46 #[.bool b0, .slice p0 n0 c0] ∧ Big wr (.agg #[.bool b0, .slice p0 n0 c0]) (gs A k).1 ∧ Up w wr
theorem RE_AV {n : Nat} (l x : List Int) : ∀ i j, i < n → j < n → RE n l 1 0 i j = AV n l x i j := fun i j hi hj => by
  rw [RE_AM l i j hi hj, AV_AM n l x i j hi hj]
set_option maxHeartbeats 32000000 in
theorem rexact_ok {v xv : Value} {n : Nat} {l x : List Int} {w : World} (hm : Sm w v n l) (hD : Def n l x) (hx : Vw w xv x) (hxl : x.length = n) (hI : In64 x) (hC : slC n l x = 0) :
    Calls Tryz.prog 27 #[v, xv] w (RExactPost w n l x) := by
  have hn := hD.n8
  have hs : x.length ≤ 1000 := by omega
  have HFi := hid (fun w' (hu : Up w w') => rfine_any ((hm.up hu).up (Up.alloc _ _)) (lv_one (hx.up hu)) (fun i => by rcases i with _ | i; exact hI; exact fun j hj => absurd hj (Nat.not_lt_zero _)) (fun i => by rcases i with _ | i; exact hs; exact Nat.zero_le _) (show 1 ≤ 9 by decide))
  have HDf := hid (fun w' (hu : Up w w') => rDefinite_any (hm.up hu))
  have HRW := hid (fun w' (hu : Up w w') => rowsG_any (hm.up hu) hD.right (s := 1) (k := 0) (by unfold I64; omega) (by unfold I64; omega))
  have hF0 : ftC n l [x] = 0 ∧ dfV n l = true := by
    unfold slC at hC
    by_cases h : ftC n l [x] = 0
    · rw [if_pos h] at hC
      cases h2 : dfV n l with
      | true => exact ⟨h, rfl⟩
      | false => rw [h2] at hC; exact absurd hC (by decide)
    · rw [if_neg h] at hC; exact absurd hC h
  rw [hF0.1] at HFi
  rw [hF0.2] at HDf
  have HX := hid (fun i (hi : i < n) w' (hu : Up w w') => show ∃ ad, (∃ px c, xv = .slice (some px) n c ∧ ad = px.add i) ∧ w'.cell? ad = some (.int .i64 (zth x i)) from by
    obtain ⟨p, c, rfl, -, h⟩ := hx
    obtain ⟨a, rfl, h2⟩ := h i (by omega)
    exact ⟨_, ⟨a, c, by rw [hxl], rfl⟩, hu.cellEq h2⟩)
  have HI := hid (fun i (hi : i < n) => hI i (by omega))
  have HO1 := hid (fun w => of_big 1 (by decide) (by decide) w)
  have HDf2 := hid hD
  have HAV := hid (fun i (hi : i < n) => show AV n l x i n = zth x i from by unfold AV; rw [if_pos hi, if_neg (by omega), if_pos rfl])
  have HRE := hid (RE_AV (n := n) l x)
  unfold RExactPost
  rw [hC, show exL n l x = slL n l x from if_pos hC]
  obtain ⟨px, cx, rfl, -, -⟩ := hx
  obtain ⟨s0, rfl, ⟨p, cap, rfl, -, -⟩, -, -, -⟩ := hm
  obtain ⟨W0, hW0⟩ : ∃ W0, w.alloc (.cells #[.int .i64 n, .slice p l.length cap] 24) = W0 := ⟨_, rfl⟩
  have hB : Blk W0 w.heap.size 24 #[.int .i64 n, .slice p l.length cap] := by rw [← hW0]; exact Blk.new _ _ rfl
  have hU : Up w W0 := by rw [← hW0]; exact Up.alloc _ _
  obtain ⟨A, hA⟩ : ∃ A, AV n l x = A := ⟨_, rfl⟩
  rw [hA] at HRE HAV
  have HA := hid hA
  clear hA hF0 hC hD hI hs
  rw [hxl] at *
  go_enter Tryz.func27, Tryz.ntmps27
  go_upto_region 7 with (first
    | ((with_reducible apply ldM_P); exact rfl; exact rfl; (first | exact hB | exact hB1 | exact hB2); exact rfl)
    | (go_at_call 63; (with_reducible refine (HFi.out _ hU).mono ?_); rintro r w1 ⟨rfl, hu1⟩; have hU1 := hU.trans ((Up.alloc _ _).trans hu1); have hB1 := hB.up ((Up.alloc _ _).trans hu1))
    | (go_at_call 19; (with_reducible refine (HDf.out _ hU1).mono ?_); rintro r w2 ⟨rfl, hu2⟩; have hU2 := hU1.trans hu2; have hB2 := hB1.up hu2)
    | (go_at_call 51; (with_reducible refine (HRW.out _ hU2).mono ?_); rintro r w3 ⟨z3, b1, G1, rfl, hu3, hb1, hb2, hO3⟩))
  obtain ⟨pA, cA, rfl⟩ := hO3.slice
  have hO3 := hO3.congr (mf' := fun r => if r < 0 then n + 1 else n) (K := A) (fun i hi => by rw [if_neg (Nat.not_lt_zero _)]) HRE.out
  have hB3 := hB2.up hu3
  have hU3 := hU2.trans hu3
  have hb0 : w.heap.size ≤ b1 := Nat.le_trans hU2.size hb1
  have HBS := hid (show w.heap.size < b1 from Nat.lt_of_lt_of_le hB2.lt hb1)
  have hxl2 := hxl
  clear hu1 hu2 hu3 hU hU1 hU2 hB hB1 hB2 hW0 HFi HDf HRW hb1 HRE hxl
  go_wp2_with fail
  go_loopg [8] n (fun g ti wr => ∃ (i : Nat) (G : Nat → Nat), i ≤ n ∧ n - i ≤ g ∧ ti = .int .i64 (i : Nat) ∧ OwnG wr b1 (.slice pA n cA) n (fun r => if r < i then n + 1 else n) G A ∧ Blk wr w.heap.size 24 #[.int .i64 n, .slice p l.length cap] ∧ Up w wr ∧ b1 ≤ wr.heap.size)
  case atStart => exact ⟨0, G1, Nat.zero_le _, by omega, rfl, hO3, hB3, hU3, hb2⟩
  case round =>
    clear hO3 hB3 hU3 hb2
    obtain ⟨i, G, hi, hig, rfl, hO, hb, hu, hbs⟩ := hrel
    have hcc := hb.cell 0 rfl
    by_cases hlt : i < n
    · have e1 : IntKind.i64.wrap ((i : Int) + 1) = (i : Int) + 1 := IntWalk.i64_in _ (by omega)
      obtain ⟨gA, cA', CA, hvA, hbA, hBA, hEA⟩ := hO.open (by omega)
      injection hvA with x1 _ x3
      subst x1 x3
      obtain ⟨ci, hCi, hOi⟩ := hEA i hlt
      rw [if_neg (Nat.lt_irrefl i)] at hCi hOi
      obtain ⟨mf, hmf⟩ : ∃ mf : Nat → Nat, (fun r => if r < i then n + 1 else n) = mf := ⟨_, rfl⟩
      have HMi : Hid (mf i = n) := hid (by rw [← hmf]; exact if_neg (Nat.lt_irrefl i))
      have HMf : Hid (∀ r, (if r = i then n + 1 else mf r) = if r < i + 1 then n + 1 else n) := hid (fun r => by
        rw [← hmf]
        dsimp only
        by_cases e : r = i
        · rw [if_pos e, if_pos (by omega)]
        · rw [if_neg e]
          by_cases e2 : r < i
          · rw [if_pos e2, if_pos (by omega)]
          · rw [if_neg e2, if_neg (by omega)])
      rw [hmf] at hO
      obtain ⟨adi, ⟨pxx, cxx, exv, rfl⟩, hcv⟩ := HX.out i hlt _ hu
      injection exv with y1 _ y3
      subst y1 y3
      have hei := HI.out i hlt
      have HOf := hid (fun w => of_big (zth x i) hei.1 hei.2 w)
      have HAi := hid (HAV.out i hlt)
      obtain ⟨zi, hzi⟩ : ∃ z, zth x i = z := ⟨_, rfl⟩
      rw [hzi] at hcv HOf HAi
      have HCi := hid hCi
      have HOi := hid hOi
      have HO := hid hO
      have HBA := hid hBA
      have HBb := hid (show b1 ≤ G i from (hOi.blk _ rfl).1)
      have HBg := hid hbA
      have HBs := hid hbs
      clear hmf hei hzi hCi hOi hO hEA hbA hbs
      go_wp2_with fail
      clear hcc
      refine opU (S := (fun wq => Blk wq gA 49 CA ∧ wq.cell? (pxx.add i) = some (.int .i64 zi) ∧ Up wr wq ∧ Below w.heap.size w wq)) (req := (fun j => j != 12 && j != 14)) (fun _ _ h hu => ⟨(h.1).up hu, hu.cell (h.2.1), (h.2.2.1).trans hu, below_up (h.2.2.2) hu⟩) ⟨gBlk, (by first | assumption | (apply Blk.cell; exact gBlk; exact rfl)), (by first | exact Up.refl _ | assumption), gUp⟩ (fun wS hSS hSu => ?_)
      have ⟨hS1, hS2, hS3, hSB⟩ := hSS
      refine tkP 0 (some 35) hSu ?_
      refine tkP 1 (some 36) hSu ?_
      refine tkP 2 (some 37) hSu ?_
      refine tkP 3 (some 38) hSu ?_
      refine tkP 4 (some 39) hSu ?_
      refine tkT 5 (some 40) rfl hSu hSS ?_ (hy := fun w' hSw => by (have hc9 := hSw.1.cell i HCi.out; go_simp; exact rfl))
      refine tkP 6 (some 41) hSu ?_
      refine tkP 7 (some 42) hSu ?_
      refine tkP 8 (some 43) hSu ?_
      refine tkT 9 (some 44) rfl hSu hSS ?_ (hy := fun w' hSw => by (have hc9 := hSw.2.1; go_simp; exact rfl))
      refine wpAnyU_callE (i := 10) (d := (some 45)) rfl rfl (by kernel_rfl) (by rfl) hSu.out (fun w' => by go_simp) (fun w' hw' => (HOf.out w')) fun vO wO hwO hRO => ?_
      try simp only [Act.put, pu1, pu2, pu3]
      obtain ⟨ob, oa, on, oc, rfl⟩ := hRO.shape
      refine wpAnyU_one (i := 11) rfl (by kernel_rfl) (by rfl) fun w11 hw11 => ?_
      refine wp_bsB rfl rfl ?_
      refine ⟨fun _ ⟨h1, h2, h3, h4⟩ => ⟨h1.up (Up.alloc _ _), (Up.alloc _ _).cell h2, h3.trans (Up.alloc _ _), below_up h4 (Up.alloc _ _)⟩, ?_⟩
      try simp only [Act.put]
      refine wpAnyU_one (i := 12) rfl (by kernel_rfl) (by rfl) fun w12 hw12 => ?_
      have gU := ((hS3.trans hwO).trans hw11).trans ((Up.alloc w11 (.cells #[.bool ob, .slice oa on oc] 46)).trans hw12)
      have gz := hRO.up (hw11.trans ((Up.alloc w11 (.cells #[.bool ob, .slice oa on oc] 46)).trans hw12))
      have gB := (Blk.new (w := w11) 46 #[.bool ob, .slice oa on oc] rfl).up hw12
      have gb1 : b1 ≤ w12.heap.size := Nat.le_trans HBs.out gU.size
      refine wp_appRow (base := b1) (l := mk n (A i)) (z := zi) _ _ rfl rfl rfl (HOi.out.up gU) (by rw [mk_len]; omega) (by rw [mk_len]; omega) (bigAt_range0 gB) gz gb1 ?_
      intro g' c' w13 hO13 hg13 hn13
      refine ⟨fun h => by simp at h, ?_⟩
      try simp only [Act.put]
      refine tkP 13 (some 48) hSu ?_
      refine wpAnyU_one (i := 14) rfl (by kernel_rfl) (by rfl) fun w14 hw14 => ?_
      obtain ⟨gP, hfz, ⟨vz, hcz⟩, hgA⟩ := (HO.out.up gU).push hlt gb1 (by rw [HMi.out, HAi.out]; exact hO13) hg13 hn13 hw14
      rw [HMi.out] at gP
      go_simp
      clear hfz hcz
      refine wpAnyU_done (by kernel_rfl) (fun wF huE => ?_) _
      have hgm := grown_below hg13 HBb.out gb1
      have g13 : Up w w13 := Below.trans (hu.trans gU) (Below.mono hgm hb0)
      have gbS := (((hb.up gU).grown hg13 (fun e => by injection e with e; have h1 := HBS.out; have h2 := HBb.out; omega)).up hw14).other ⟨gA, i, none⟩ (.slice (some ⟨g', 0, none⟩) (n + 1) c') (show w.heap.size ≠ gA from by have h1 := HBS.out; omega)
      have gW := Up.trans ((g13.trans hw14).setCell (p := ⟨gA, i, none⟩) (show w.heap.size ≤ gA by omega) (.slice (some ⟨g', 0, none⟩) (n + 1) c')) huE
      have gO2 := (gP.congr (mf' := fun r => if r < i + 1 then n + 1 else n) (K := A) (fun r _ => HMf.out r) (fun _ _ _ _ => rfl)).up huE
      have gs := Nat.le_trans (Nat.le_trans (Nat.le_trans gb1 hgm.size) hw14.size) (show w14.heap.size ≤ _ from by have := huE.size; simp at this; exact this)
      replace gbS := gbS.up huE
      clear gP hS1 hS2 hS3 hSB hSS huE hwO hw11 hw12 hw14 gU gz gB hO13 hg13 hn13 hgm g13 hcv hRO
      go_wp2_with fail
      go_roundg (n - (i + 1))
      case measure => omega
      case rel => exact ⟨i + 1, _, hlt, Nat.le_refl _, rfl, gO2, gbS, gW, gs⟩
    · obtain rfl : n = i := by omega
      have hM := hO.m (m := n + 1) (fun r hr => if_pos hr)
      go_upto_region 12 with (first
        | (go_at_call 37; (with_reducible refine (HO1.out _).mono ?_); rintro r w4 ⟨hu4, v4, rfl, hB4⟩; obtain ⟨b4, a4, n4, c4, rfl⟩ := hB4.shape)
        | ((with_reducible apply stB_P); exact rfl; exact rfl; exact Blk.new _ _ rfl; exact rfl; exact rfl; exact one2 _ _ _ _
           refine wpL_folded (fun wd => Up w4 wd ∧ Blk wd w4.heap.size 46 #[.bool b4, .slice a4 n4 c4] ∧ Big wd (.agg #[.bool b4, .slice a4 n4 c4]) 1) ⟨gUp, gBlk, (hB4.up (Up.alloc _ _)).setRow (Blk.new _ _ rfl)⟩ ?_
           rintro w5 ⟨hu5, hb5, hB5⟩))
      have hu45 := hu4.trans hu5
      have HbP := hid (show w.heap.size < w4.heap.size from Nat.lt_of_lt_of_le hb.lt hu4.size)
      have hEX : EXR w n w4.heap.size #[.int .i64 n, .slice p l.length cap] A (.slice pA n cA) 0 w5 :=
        ⟨_, _, A, _, _, _, _, hM.up hu45, Gj.start, hb.up hu45, hb5, hB5, hu.trans hu45⟩
      obtain ⟨bP, hbP⟩ : ∃ y, w4.heap.size = y := ⟨_, rfl⟩
      rw [hbP] at hEX HbP ⊢
      clear hM hu4 hu5 hb5 hB5 hB4 hu45 hbP hcc hb hu hO hbs HO1 hb0 HBS
      go_wp2_with fail
      go_loopg [7, 10] n (fun g t7 t10 wr => ∃ k : Nat, k ≤ n ∧ n - k ≤ g ∧ t10 = .int .i64 (k : Nat) ∧ EXR w n bP #[.int .i64 n, .slice p l.length cap] A t7 k wr)
      case atStart => exact ⟨0, Nat.zero_le _, by omega, rfl, hEX⟩
      case round =>
        clear hEX
        obtain ⟨k, hk, hkg, rfl, base, G, V, b0, p0, n0, c0, hM, hG, hbS, hbP, hBq, hu⟩ := hrel
        obtain ⟨pB, cB, rfl⟩ := hM.slice
        have hcc := hbS.cell 0 rfl
        by_cases hlk : k < n
        · have e1 : IntKind.i64.wrap ((k : Int) + 1) = (k : Int) + 1 := IntWalk.i64_in _ (by omega)
          have hsv := HDf2.out.sv k (by omega)
          have hlast := fun j => HDf2.out.last hlk j
          rw [HA.out] at hsv
          simp only [HA.out] at hlast
          obtain ⟨q, hq⟩ : ∃ q, (gs A k).1 = q := ⟨_, rfl⟩
          obtain ⟨M, hMM⟩ : ∃ M, (gs A k).2 = M := ⟨_, rfl⟩
          have HN1 := hid (show (gs A (k + 1)).1 = M 0 0 from by rw [← hMM]; rfl)
          have HN2 := hid (show (gs A (k + 1)).2 = nxt q M from by rw [← hMM, ← hq]; rfl)
          rw [HN2.out, hMM] at hlast
          rw [hq] at hsv hBq
          rw [hMM] at hsv hG
          have HQ := hid (show q ≠ 0 ∧ q.natAbs < bp 5 ∧ ∀ i j, (M i j).natAbs < bp 5 from ⟨Int.ne_of_gt hsv.2.1, hsv.2.2, hsv.entry (by omega)⟩)
          have HGn := hid (hG.next hlk hlast)
          have hVM := fun i j (h1 : i < n) (h2 : k ≤ j) (h3 : j ≤ n) => hG i j h1 h2 h3
          have HVb := hid (fun i j (h1 : i < n) (h2 : k ≤ j) (h3 : j ≤ n) => show (V i j).natAbs < bp 5 from by rw [hG i j h1 h2 h3]; exact HQ.out.2.2 _ _)
          have HVk := hid (show V k k = M 0 0 from by rw [hG k k hlk (Nat.le_refl _) (by omega), Nat.sub_self]; unfold ps; rw [if_pos (Nat.le_refl _), Nat.sub_self])
          have HSV := hid (fun i j => show stepV k q V i j = if i = k then V i j else if j ≤ k then (if j = i then V k k else 0) else (V k k * V i j - V i k * V k j).tdiv q from rfl)
          obtain ⟨V', hV'⟩ : ∃ V', stepV k q V = V' := ⟨_, rfl⟩
          rw [hV'] at HGn HSV
          obtain ⟨gA, cA', CA, hvA, -, -, hBA, hEA⟩ := hM.open (by omega)
          injection hvA with x1 _ x3
          subst x1 x3
          have HEA := hid hEA
          have HMa := hid hM
          have HBA := hid hBA
          clear hq hMM hV' hG hVM hlast hsv hM hEA hBA
          go_wp2_with fail
          clear hcc
          obtain ⟨wO, hwO⟩ : ∃ y, wr = y := ⟨_, rfl⟩
          rw [hwO] at HMa HBA hbS hbP hBq hu ⊢
          clear hwO
          have HbS := hid hbS
          have HbPO := hid hbP
          have HBq := hid hBq
          have HuO := hid hu
          clear hbS hbP hBq hu
          go_loopg [11, 12] n (fun g tb ti wr => ∃ (i : Nat) (G' : Nat → Nat), i ≤ n ∧ n - i ≤ g ∧ ti = .int .i64 (i : Nat) ∧ OwnM wr wO.heap.size tb i (n + 1) G' V' ∧ (∀ r, r < i → G' r < wr.heap.size) ∧ Up wO wr)
          case atStart => exact ⟨0, fun _ => 0, Nat.zero_le _, by omega, rfl, OwnM.nil _ _ _ _ _, fun _ hr => absurd hr (Nat.not_lt_zero _), Up.refl _⟩
          case round =>
            obtain ⟨i, G', hi, hig, rfl, hOb, hGs, hu⟩ := hrel
            have HGs := hid hGs
            obtain ⟨pT, cT, rfl⟩ := hOb.slice
            have hcc := (HbS.out.up hu).cell 0 rfl
            clear hGs
            by_cases hlt : i < n
            · have e2 : IntKind.i64.wrap ((i : Int) + 1) = (i : Int) + 1 := IntWalk.i64_in _ (by omega)
              go_wp2_with fail
              clear hcc
              obtain ⟨wI, hwI⟩ : ∃ y, wr = y := ⟨_, rfl⟩
              rw [hwI] at hOb hu HGs ⊢
              clear hwI
              have HOb := hid hOb
              have HuI := hid hu
              clear hOb hu
              go_loopg [13, 14] (n + 1) (fun g tr tj wr => ∃ j : Nat, j ≤ n + 1 ∧ n + 1 - j ≤ g ∧ tj = .int .i64 (j : Nat) ∧ OwnB wr wI.heap.size tr (mk j (V' i)) ∧ Up wI wr)
              case atStart => exact ⟨0, Nat.zero_le _, by omega, rfl, OwnB.nil _ _, Up.refl _⟩
              case round =>
                obtain ⟨j, hj, hjg, rfl, hE, huj⟩ := hrel
                have hUj := HuI.out.trans huj
                have hcc := (HbS.out.up hUj).cell 0 rfl
                have hszj := huj.size
                by_cases hjl : j ≤ n
                · have e3 : IntKind.i64.wrap ((j : Int) + 1) = (j : Int) + 1 := IntWalk.i64_in _ (by omega)
                  have HTk : Hid ((mk j (V' i)).length < 1000000) := hid (by rw [mk_len]; omega)
                  have HT9 := hid (mk_succ j (V' i))
                  have HE := hid hE
                  have HUj := hid hUj
                  have Huj := hid huj
                  have hVij := HSV.out i j
                  clear hE hUj
                  by_cases hik : i = k
                  · rw [if_pos hik] at hVij
                    have HVz := hid hVij
                    obtain ⟨ci, hCi⟩ := HEA.out i hlt
                    have hcx := (HBA.out.up HUj.out).cell i hCi
                    obtain ⟨Ce, be, ae, ne, ce, hBe, -, h1, h2, hbig⟩ := (HMa.out.up HUj.out).entry hlt (show j < n + 1 by omega)
                    have HRe := hid (fun w' (hB : Blk w' (G i) 46 Ce) => bigAt_range hB h1 h2)
                    have dik : ((i : Int) == (k : Int)) = true := by simp; omega
                    have HIK := hid hik
                    clear hik
                    obtain ⟨z, hz⟩ : ∃ z, V i j = z := ⟨_, rfl⟩
                    rw [hz] at HVz hbig
                    clear hVij hCi h1 h2 hz huj
                    go_wp2_with (first
                      | ((with_reducible apply ldB2_P); exact rfl; exact rfl; exact HRe.out _ hBe; done)
                      | ((with_reducible apply ldB2_P); exact rfl; exact rfl; exact HRe.out _ hBe)
                      | ((with_reducible apply bsB_P); exact rfl)
                      | ((with_reducible apply appB (l := mk j (V' i)) (z := z)); exact rfl; exact rfl; exact OwnB.up (Up.alloc _ _) HE.out; exact bigAt_range0 (Blk.new _ _ rfl); exact hbig.up (Up.alloc _ _); (focus (simp; omega)); exact HTk.out; rintro v6 w6 hO6 - hb6))
                    go_roundg (n + 1 - (j + 1))
                    case measure => omega
                    case rel => exact ⟨j + 1, by omega, Nat.le_refl _, rfl, by rw [HT9.out, HVz.out]; exact hO6, Below.trans (Huj.out.trans (Up.alloc _ _)) hb6⟩
                  · rw [if_neg hik] at hVij
                    have dik : ((i : Int) == (k : Int)) = false := by simp; omega
                    by_cases hjk : j ≤ k
                    · rw [if_pos hjk] at hVij
                      by_cases hji : j = i
                      · rw [if_pos hji] at hVij
                        have HVz := hid hVij
                        have dji : ((j : Int) != (i : Int)) = false := by simp; omega
                        have dji2 : ((j : Int) == (i : Int)) = true := by simp; omega
                        have hjk2 : j < k := by omega
                        have HJI := hid hji
                        clear hji
                        obtain ⟨ci, hCi⟩ := HEA.out k hlk
                        have hcx := (HBA.out.up HUj.out).cell k hCi
                        obtain ⟨Ce, be, ae, ne, ce, hBe, -, h1, h2, hbig⟩ := (HMa.out.up HUj.out).entry hlk (show k < n + 1 by omega)
                        have HRe := hid (fun w' (hB : Blk w' (G k) 46 Ce) => bigAt_range hB h1 h2)
                        obtain ⟨z, hz⟩ : ∃ z, V k k = z := ⟨_, rfl⟩
                        rw [hz] at HVz hbig
                        clear hVij hCi h1 h2 hz huj
                        go_wp2_with (first
                          | ((with_reducible apply ldB2_P); exact rfl; exact rfl; exact HRe.out _ hBe)
                          | ((with_reducible apply bsB_P); exact rfl)
                          | ((with_reducible apply appB (l := mk j (V' i)) (z := z)); exact rfl; exact rfl; exact OwnB.up (Up.alloc _ _) HE.out; exact bigAt_range0 (Blk.new _ _ rfl); exact hbig.up (Up.alloc _ _); (focus (simp; omega)); exact HTk.out; rintro v6 w6 hO6 - hb6))
                        go_roundg (n + 1 - (j + 1))
                        case measure => omega
                        case rel => exact ⟨j + 1, by omega, Nat.le_refl _, rfl, by rw [HT9.out, HVz.out]; exact hO6, Below.trans (Huj.out.trans (Up.alloc _ _)) hb6⟩
                      · rw [if_neg hji] at hVij
                        have HVz := hid hVij
                        have dji : ((j : Int) != (i : Int)) = true := by simp; omega
                        clear hVij huj
                        go_wp2_with (first
                          | ((with_reducible apply bsB_P); exact rfl)
                          | ((with_reducible apply appB (l := mk j (V' i)) (z := 0)); exact rfl; exact rfl; exact OwnB.up (Up.alloc _ _) HE.out; exact bigAt_range0 (Blk.new _ _ rfl); exact big_zero _; (focus (simp; omega)); exact HTk.out; rintro v6 w6 hO6 - hb6))
                        go_roundg (n + 1 - (j + 1))
                        case measure => omega
                        case rel => exact ⟨j + 1, by omega, Nat.le_refl _, rfl, by rw [HT9.out, HVz.out]; exact hO6, Below.trans (Huj.out.trans (Up.alloc _ _)) hb6⟩
                    · rw [if_neg hjk] at hVij
                      have HVz := hid hVij
                      have hjk2 : ¬ j < k := by omega
                      have HST := hid (fun w' (hu : Up wO w') => rstep_any (HMa.out.up hu) (HBq.out.up hu) hlk hlt (show k < n + 1 by omega) (show j < n + 1 by omega) hn (by omega) (by decide) HQ.out.1 HQ.out.2.1 (HVb.out k k hlk (Nat.le_refl _) (by omega)) (HVb.out i j hlt (by omega) hjl) (HVb.out i k hlt (Nat.le_refl _) (by omega)) (HVb.out k j hlk (by omega) hjl))
                      obtain ⟨z, hz⟩ : ∃ z, (V k k * V i j - V i k * V k j).tdiv q = z := ⟨_, rfl⟩
                      rw [hz] at HST HVz
                      have hbp := HbPO.out.up HUj.out
                      clear hVij hz huj
                      cases dji : ((j : Int) == (i : Int))
                      all_goals
                        go_wp2_with (first
                          | ((with_reducible apply ldB_P); exact rfl; exact rfl; exact hbp; exact rfl)
                          | (go_at_call 54; (with_reducible refine (HST.out _ HUj.out).mono ?_); rintro r w5 ⟨hu5, v5, rfl, hB5⟩; obtain ⟨b5, a5, n5, c5, rfl⟩ := hB5.shape)
                          | ((with_reducible apply bsB_P); exact rfl)
                          | ((with_reducible apply appB (l := mk j (V' i)) (z := z)); exact rfl; exact rfl; exact OwnB.up (hu5.trans (Up.alloc _ _)) HE.out; exact bigAt_range0 (Blk.new _ _ rfl); exact hB5.up (Up.alloc _ _); (focus (have := hu5.size; simp; omega)); exact HTk.out; rintro v6 w6 hO6 - hb6))
                        go_roundg (n + 1 - (j + 1))
                        case measure => omega
                        case rel => exact ⟨j + 1, by omega, Nat.le_refl _, rfl, by rw [HT9.out, HVz.out]; exact hO6, Below.trans ((Huj.out.trans hu5).trans (Up.alloc _ _)) hb6⟩
                · obtain rfl : j = n + 1 := by omega
                  obtain ⟨pe, ce, rfl⟩ := hE.slice
                  obtain ⟨ge, cge, Ce, hve, hbe, -⟩ := hE.open (by rw [mk_len]; omega)
                  rw [mk_len] at hve
                  injection hve with x1 x2 x3
                  subst x1 x3
                  have hRB := (hE.rowB (by rw [mk_len]; omega)).1
                  have hszu := HuI.out.size
                  have Huj := hid huj
                  rw [mk_len]
                  clear hE huj
                  go_wp2_with (first
                    | ((with_reducible apply appM (b := wI.heap.size) (r := ge) (m := n + 1) (n := i) (V := V') (G := G')); exact rfl; exact rfl; exact OwnM.up (Huj.out.trans (Up.alloc _ _)) HOb.out; exact (Blk.new _ _ rfl).cell 0 rfl; exact hRB.up (Up.alloc _ _); exact HGs.out; exact hbe; exact hszu; (focus (simp; omega)); (focus omega); rintro v6 w6 hO6 hb6 hG6))
                  go_roundg (n - (i + 1))
                  case measure => omega
                  case rel => exact ⟨i + 1, _, hlt, Nat.le_refl _, rfl, hO6, hG6, Below.trans ((HuI.out.trans Huj.out).trans (Up.alloc _ _)) hb6⟩
            · obtain rfl : n = i := by omega
              obtain ⟨ck, hCk⟩ := HEA.out k hlk
              have hcx := (HBA.out.up hu).cell k hCk
              obtain ⟨Ck, bk, ak, nk, dk, hBk, -, h1, h2, hbig⟩ := (HMa.out.up hu).entry hlk (show k < n + 1 by omega)
              have HRk := hid (fun w' (hB : Blk w' (G k) 46 Ck) => bigAt_range hB h1 h2)
              rw [HVk.out] at hbig
              obtain ⟨m0, hm0⟩ : ∃ y, M 0 0 = y := ⟨_, rfl⟩
              rw [hm0] at hbig HN1
              have hbp := HbPO.out.up hu
              have hltp := HbPO.out.lt
              have HGp := hid (fun r (hr : r < n) => show G' r ≠ bP from by obtain ⟨_, _, _, h3, _⟩ := hOb; have := (h3 r hr).1; omega)
              have HOb := hid hOb
              have hbs9 := HbS.out.up hu
              have hUw := HuO.out.trans hu
              have hwP := HbP.out
              clear hCk h1 h2 hm0 hOb hu
              go_wp2_with (first
                | ((with_reducible apply ldB2_P); exact rfl; exact rfl; exact HRk.out _ hBk)
                | ((with_reducible apply stB_P); exact rfl; exact rfl; exact hbp; exact rfl; exact rfl; exact one2 _ _ _ _
                   refine wpL_folded (fun wd => OwnM wd wO.heap.size (.slice pT n cT) n (n + 1) G' V' ∧ Blk wd w.heap.size 24 #[.int .i64 n, .slice p l.length cap] ∧ Blk wd bP 46 #[.bool bk, .slice ak nk dk] ∧ Big wd (.agg #[.bool bk, .slice ak nk dk]) m0 ∧ Up w wd)
                     ⟨HOb.out.otherB hbp _ HGp.out, hbs9.row_other _ (by omega), hbp.setRow _, hbig.setRow hbp, below_setRow hUw (by omega) _⟩ ?_
                   rintro w9 ⟨h9, hs9, hp9, hb9, hu9⟩))
              go_roundg (n - (k + 1))
              case measure => omega
              case rel => exact ⟨k + 1, hlk, Nat.le_refl _, rfl, wO.heap.size, G', V', bk, ak, nk, dk, h9, by rw [HN2.out]; exact HGn.out, hs9, hp9, by rw [HN1.out]; exact hb9, hu9⟩
        · obtain rfl : n = k := by omega
          have HEnd := hid (fun i (hi : i < n) => show V i n = slX n l x i from by rw [hG.end_ hi]; unfold slX; rw [HA.out])
          rw [show (gs A n).1 = slD n l from by rw [← HA.out]; exact HDf2.out.den] at hBq
          have HRv : Hid (∀ (w' : World) (z : Value), RFv w' z (slD n l) (mk n fun i => slX n l x i) → RFv w' z (slD (n : Int).toNat l) (slL n l x)) := hid (fun _ _ h => h)
          obtain ⟨D, hDD⟩ : ∃ D, slD n l = D := ⟨_, rfl⟩
          obtain ⟨X, hXX⟩ : ∃ X : Nat → Int, (fun i => slX n l x i) = X := ⟨_, rfl⟩
          have HXe : Hid (∀ i, i < n → V i n = X i) := hid (fun i hi => by rw [← hXX]; exact HEnd.out i hi)
          rw [hDD] at hBq
          have HRw : Hid (∀ (w' : World) (z : Value), RFv w' z D (mk n X) → RFv w' z (slD (n : Int).toNat l) (slL n l x)) := hid (fun w' z h => HRv.out w' z (by rw [hDD, hXX]; exact h))
          have HMa := hid hM
          have HbS := hid hbS
          have HbP2 := hid hbP
          have HBq := hid hBq
          have HuO := hid hu
          clear hDD hXX HEnd HRv hG hM hbS hbP hBq hu
          go_wp2_with fail
          clear hcc
          obtain ⟨wZ, hwZ⟩ : ∃ y, wr = y := ⟨_, rfl⟩
          rw [hwZ] at HMa HbS HbP2 HBq HuO ⊢
          clear hwZ
          go_loopg [15, 16] n (fun g tz ti wr => ∃ i : Nat, i ≤ n ∧ n - i ≤ g ∧ ti = .int .i64 (i : Nat) ∧ OwnRF wr wZ.heap.size tz D (mk i X) ∧ Up wZ wr)
          case atStart => exact ⟨0, Nat.zero_le _, by omega, rfl, OwnRF.nil _ _ _, Up.refl _⟩
          case round =>
            obtain ⟨i, hi, hig, rfl, hE, hu⟩ := hrel
            have hcc := (HbS.out.up hu).cell 0 rfl
            obtain ⟨pO, cO, rfl⟩ := hE.slice
            by_cases hlt : i < n
            · have e2 : IntKind.i64.wrap ((i : Int) + 1) = (i : Int) + 1 := IntWalk.i64_in _ (by omega)
              obtain ⟨gA, cA', CA, hvA, -, -, hBA, hEA⟩ := HMa.out.open (by omega)
              injection hvA with x1 _ x3
              subst x1 x3
              obtain ⟨ci, hCi⟩ := hEA i hlt
              obtain ⟨Ce, be, ae, ne, ce, hBe, -, h1, h2, hbig⟩ := (HMa.out.up hu).entry hlt (show n < n + 1 by omega)
              have HRe := hid (fun w' (hB : Blk w' (G i) 46 Ce) => bigAt_range hB h1 h2)
              rw [HXe.out i hlt] at hbig
              have HCi := hid hCi
              have hBAr := hBA.up hu
              have hbSr := HbS.out.up hu
              have hbPr := HbP2.out.up hu
              have hBqr := HBq.out.up hu
              have hUw := HuO.out.trans hu
              have HTk : Hid ((mk i X).length < 1000000) := hid (by rw [mk_len]; omega)
              have HT9 := hid (mk_succ i X)
              have HE := hid hE
              have HZs := hid hu.size
              have hnn : (n : Int) < (n : Int) + 1 := by omega
              have Hu := hid hu
              obtain ⟨z, hz⟩ : ∃ z, X i = z := ⟨_, rfl⟩
              rw [hz] at hbig HT9
              clear h1 h2 hz hCi hBA hEA hE hu
              go_wp2_with fail
              clear hcc
              refine opU (S := (fun wq => Blk wq gA 49 CA ∧ Blk wq (G i) 46 Ce ∧ Blk wq w.heap.size 24 #[.int .i64 n, .slice p l.length cap] ∧ Blk wq bP 46 #[.bool b0, .slice p0 n0 c0] ∧ Up wr wq ∧ Below w.heap.size w wq)) (req := (fun j => j != 12)) (fun _ _ h hu => ⟨(h.1).up hu, (h.2.1).up hu, (h.2.2.1).up hu, (h.2.2.2.1).up hu, (h.2.2.2.2.1).trans hu, below_up (h.2.2.2.2.2) hu⟩) ⟨gBlk, gBlk, gBlk, gBlk, (by first | exact Up.refl _ | assumption), gUp⟩ (fun wS hSS hSu => ?_)
              have ⟨hS1, hS2, hS3, hS4, hS5, hSB⟩ := hSS
              refine tkP 0 (some 141) hSu ?_
              refine tkP 1 (some 142) hSu ?_
              refine tkP 2 (some 143) hSu ?_
              refine tkP 3 (some 144) hSu ?_
              refine tkT 4 (some 145) rfl hSu hSS ?_ (hy := fun w' hSw => by (have hc9 := hSw.1.cell i HCi.out; go_simp; exact rfl))
              refine tkP 5 (some 146) hSu ?_
              refine tkT 6 (some 147) rfl hSu hSS ?_ (hy := fun w' hSw => by (have hc9 := hSw.2.2.1.cell 0 rfl; go_simp; exact rfl))
              refine tkP 7 (some 148) hSu ?_
              refine tkT 8 (some 149) rfl hSu hSS ?_ (hy := fun w' hSw => run_ldB2 rfl rfl (HRe.out _ hSw.2.1))
              refine tkT 9 (some 150) rfl hSu hSS ?_ (hy := fun w' hSw => run_ldB rfl rfl hSw.2.2.2.1 rfl)
              refine tkO 10 (some 151) rfl hSu ?_ (hy := fun w' => run_bdRF rfl rfl rfl _)
              refine wpAnyU_one (i := 11) rfl (by kernel_rfl) (by rfl) fun w11 hw11 => ?_
              refine wp_bsRF rfl rfl ?_
              refine ⟨fun _ ⟨h1, h2, h3, h4, h5, h6⟩ => ⟨h1.up (Up.alloc _ _), h2.up (Up.alloc _ _), h3.up (Up.alloc _ _), h4.up (Up.alloc _ _), h5.trans (Up.alloc _ _), below_up h6 (Up.alloc _ _)⟩, ?_⟩
              try simp only [Act.put]
              refine wpAnyU_one (i := 12) rfl (by kernel_rfl) (by rfl) fun w12 hw12 => ?_
              have ga := (Up.alloc w11 (.cells #[.bool be, .slice ae ne ce, .bool b0, .slice p0 n0 c0] 77)).trans hw12
              have gU := (hS5.trans hw11).trans ga
              have gB := (Blk.new (w := w11) 77 #[.bool be, .slice ae ne ce, .bool b0, .slice p0 n0 c0] rfl).up hw12
              refine wp_appRF (base := wZ.heap.size) (l := mk i X) (z := z) (D := D) _ _ rfl rfl rfl (HE.out.up gU) gB (hbig.up gU) (hBqr.up gU) (Nat.le_trans HZs.out gU.size) HTk.out ?_
              intro v13 w13 hO13 hb13
              refine ⟨fun h => by simp at h, ?_⟩
              try simp only [Act.put]
              refine tkP 13 (some 15) hSu ?_
              refine wpAnyU_done (by kernel_rfl) (fun wF huE => ?_) _
              have gO := hO13.up huE
              have gW := Up.trans (Below.trans (Hu.out.trans gU) hb13) huE
              clear hS1 hS2 hS3 hS4 hS5 hSB hSS huE hw11 hw12 ga gU gB hO13 hb13 hBAr hbSr hbPr hBqr hUw
              go_wp2_with fail
              go_roundg (n - (i + 1))
              case measure => omega
              case rel => exact ⟨i + 1, hlt, Nat.le_refl _, rfl, by rw [HT9.out]; exact gO, gW⟩
            · obtain rfl : n = i := by omega
              go_wp2_with fail
              go_ret2
              exact ⟨_, rfl, HuO.out.trans hu, HRw.out _ _ hE.rfv⟩
theorem rr_floor {s d : Int} (hd : 0 < d) : s / d = if s.tmod d < 0 then s.tdiv d - 1 else s.tdiv d := by
  have h1 := Int.mul_tdiv_add_tmod s d
  have h2 := Int.tmod_lt_of_pos s hd
  have h3 : -d < s.tmod d := by
    have := Int.tmod_lt_of_pos (-s) hd
    rw [Int.neg_tmod] at this
    omega
  generalize s.tdiv d = q at *
  generalize s.tmod d = r at *
  split
  · rw [← h1, show d * q + r = (d + r) + d * (q - 1) by rw [Int.mul_sub]; omega, Int.add_mul_ediv_left _ _ (by omega), Int.ediv_eq_zero_of_lt (by omega) (by omega)]
    omega
  · rw [← h1, Int.add_comm, Int.add_mul_ediv_left _ _ (by omega), Int.ediv_eq_zero_of_lt (by omega) (by omega)]
    omega
set_option maxHeartbeats 16000000 in
theorem rround_any {x y : Int} {va vb : Value} {w : World} {B : Nat} (ha : Big w va x) (hb : Big w vb y) (hy : 0 < y) (hB : B ≤ 100) (bx : x.natAbs < bp B) (bY : y.natAbs < bp B) :
    Calls Tryz.prog 67 #[va, vb] w fun r w' => Up w w' ∧ ∃ v, r = .returned v ∧ Big w' v ((2 * x + y) / (2 * y)) := by
  obtain ⟨p, a, n, ca, rfl⟩ := ha.shape
  obtain ⟨q, b, m, cb, rfl⟩ := hb.shape
  have e1 : bp (B + 1) = bp B * 18446744073709551616 := bp_succ B
  have p1 : (2 * x).natAbs < bp (B + 1) := by omega
  have p2 : (2 * x + y).natAbs < bp (B + 1) := by omega
  have p3 : (2 * y).natAbs < bp (B + 1) := by omega
  have HB12 : Hid ((2 : Int).natAbs < bp 1 ∧ (1 : Int).natAbs < bp 1) := hid (by rw [show bp 1 = 18446744073709551616 from by rw [bp_succ, bp_zero]]; exact ⟨by decide, by decide⟩)
  have nT := nl_bp (k := 1) (z := 2) (by omega) HB12.out.1
  have nO := nl_bp (k := 1) (z := 1) (by omega) HB12.out.2
  have nX := nl_bp (k := B) (by omega) bx
  have nY := nl_bp (k := B) (by omega) bY
  have n1 := nl_bp (k := B + 1) (by omega) p1
  have n2 := nl_bp (k := B + 1) (by omega) p2
  have n3 := nl_bp (k := B + 1) (by omega) p3
  have HO2 := hid (fun w => of_big 2 (by decide) (by decide) w)
  have HO1 := hid (fun w => of_big 1 (by decide) (by decide) w)
  have HM1 := hid (fun (va vb : Value) (w : World) (ha : Big w va 2) (hb : Big w vb x) => mul_big ha hb nT nX)
  have HA1 := hid (fun (va vb : Value) (w : World) (ha : Big w va (2 * x)) (hb : Big w vb y) => add_big ha hb n1 nY)
  have HM2 := hid (fun (va vb : Value) (w : World) (ha : Big w va 2) (hb : Big w vb y) => mul_big ha hb nT nY)
  have HDv := hid (fun (va vb : Value) (w : World) (ha : Big w va (2 * x + y)) (hb : Big w vb (2 * y)) => div_big2 ha hb n2 n3 (by omega))
  have HFl := hid (rr_floor (s := 2 * x + y) (d := 2 * y) (by omega))
  have nQ : nl ((2 * x + y).tdiv (2 * y)).natAbs < 50000 := by
    have h1 : ((2 * x + y).tdiv (2 * y)).natAbs ≤ (2 * x + y).natAbs := by rw [Int.natAbs_tdiv]; exact Nat.div_le_self _ _
    have h2 := nl_le (Nat.lt_of_le_of_lt h1 (lt_bp_nl _))
    omega
  have HSg := hid (fun (v : Value) (w : World) (h : Big w v ((2 * x + y).tmod (2 * y))) => rsign_big h)
  have HSb := hid (fun (va vb : Value) (w : World) (ha : Big w va ((2 * x + y).tdiv (2 * y))) (hb : Big w vb 1) => sub_big ha hb nQ nO)
  rw [HFl.out]
  obtain ⟨x2, hx2⟩ : ∃ z, 2 * x = z := ⟨_, rfl⟩
  obtain ⟨y2, hy2⟩ : ∃ z, 2 * y = z := ⟨_, rfl⟩
  rw [hx2] at HM1 HA1 HDv HSb HSg ⊢
  rw [hy2] at HM2 HDv HSb HSg ⊢
  obtain ⟨s, hs⟩ : ∃ z, x2 + y = z := ⟨_, rfl⟩
  rw [hs] at HA1 HDv HSb HSg ⊢
  obtain ⟨t, ht⟩ : ∃ z, s.tdiv y2 = z := ⟨_, rfl⟩
  rw [ht] at HDv HSb ⊢
  obtain ⟨u, hu0⟩ : ∃ z, s.tmod y2 = z := ⟨_, rfl⟩
  rw [hu0] at HDv HSg ⊢
  have HSv : Hid ((if u < 0 then t - 1 else t) = if decide (sgn u < 0) = true then t - 1 else t) := hid (by
    have : (sgn u < 0) ↔ u < 0 := by
      unfold sgn
      split
      · simp [*]
      · split <;> simp [*]
    simp only [decide_eq_true_eq, this])
  rw [HSv.out]
  obtain ⟨sg, hsg⟩ : ∃ sg, decide (sgn u < 0) = sg := ⟨_, rfl⟩
  rw [hsg]
  obtain ⟨RS, hRS⟩ : ∃ z, (if sg = true then t - 1 else t) = z := ⟨_, rfl⟩
  rw [hRS]
  have HRS := hid hRS
  clear HSv hRS
  clear hx2 hy2 hs ht hu0 HFl nQ n1 n2 n3 nX nY nT nO p1 p2 p3 e1 bx bY hB hy
  obtain ⟨W0, hW0⟩ : ∃ W0, w.alloc (.cells #[.bool p, .slice a n ca] 46) = W0 := ⟨_, rfl⟩
  have hB0 : Blk W0 w.heap.size 46 #[.bool p, .slice a n ca] := by rw [← hW0]; exact Blk.new _ _ rfl
  have hU0 : Up w W0 := by rw [← hW0]; exact Up.alloc _ _
  have hs0 : W0.heap.size = w.heap.size + 1 := by rw [← hW0]; simp
  obtain ⟨W1, hW1⟩ : ∃ W1, W0.alloc (.cells #[.bool q, .slice b m cb] 46) = W1 := ⟨_, rfl⟩
  have hB1 : Blk W1 (w.heap.size + 1) 46 #[.bool q, .slice b m cb] := by rw [← hW1]; exact Blk.new _ _ hs0.symm
  have hU1 : Up W0 W1 := by rw [← hW1]; exact Up.alloc _ _
  have hs1 : W1.heap.size = w.heap.size + 1 + 1 := by rw [← hW1]; simp [hs0]
  obtain ⟨W2, hW2⟩ : ∃ W2, W1.alloc (.cells #[.bool false, .slice none 0 0] 46) = W2 := ⟨_, rfl⟩
  have hB2 : Blk W2 (w.heap.size + 1 + 1) 46 #[.bool false, .slice none 0 0] := by rw [← hW2]; exact Blk.new _ _ hs1.symm
  have hU2 : Up W1 W2 := by rw [← hW2]; exact Up.alloc _ _
  go_enter Tryz.func67, Tryz.ntmps67
  have hU3 : Up w W2 := (hU0.trans hU1).trans hU2
  go_upto_region 2 with (first
    | (go_at_call 37; (with_reducible refine (HO2.out _).mono ?_); rintro e wO ⟨huO, u, rfl, hBO⟩; obtain ⟨qo, ao, no, co, rfl⟩ := hBO.shape)
    | ((with_reducible apply stB_P); exact rfl; exact rfl; exact Blk.new _ _ rfl; exact rfl; exact rfl; exact one2 _ _ _ _
       refine wpL_folded (fun wd => Up W2 wd ∧ Blk wd wO.heap.size 46 #[.bool qo, .slice ao no co] ∧ Big wd (.agg #[.bool qo, .slice ao no co]) 2) ⟨below_setRow (huO.trans (Up.alloc _ _)) huO.size _, Blk.setRow (Blk.new _ _ rfl) _, big_set (Blk.new _ _ rfl) (hBO.up (Up.alloc _ _))⟩ ?_
       rintro w3 ⟨hu3, hB3, hBO3⟩))
  have hU4 := hU3.trans hu3
  have hBa := ((hB0.up hU1).up hU2).up hu3
  have hBb := (hB1.up hU2).up hu3
  have hBc := hB2.up hu3
  have hz3 := hu3.size
  clear hW0 hW1 hW2 hU0 hU1 hU2 hB0 hB1 hB2 hU3 huO hBO
  refine wp_region_sp2 (n := 28) 14 15 11 12 13 6 7 [10, 11, 12, 13, 14, 15, 16, 17, 18, 9, 19, 20, 6, 7] [SP.is (.agg #[.bool qo, .slice ao no co]), SP.is (.agg #[.bool p, .slice a n ca]), SP.of (fun v w1 => Big w1 v x2) (fun _ _ _ h hu => h.up hu), SP.is (.agg #[.bool q, .slice b m cb]), SP.of (fun v w1 => Big w1 v s) (fun _ _ _ h hu => h.up hu), SP.is (.agg #[.bool qo, .slice ao no co]), SP.is (.agg #[.bool q, .slice b m cb]), SP.of (fun v w1 => Big w1 v y2) (fun _ _ _ h hu => h.up hu), SP.of (fun v w1 => ∃ b1 a1 n1 c1 b2 a2 n2 c2, v = .tuple #[.agg #[.bool b1, .slice a1 n1 c1], .agg #[.bool b2, .slice a2 n2 c2]] ∧ Big w1 (.agg #[.bool b1, .slice a1 n1 c1]) t ∧ Big w1 (.agg #[.bool b2, .slice a2 n2 c2]) u) (fun _ _ _ h hu => (by obtain ⟨b1, a1, n1, c1, b2, a2, n2, c2, h1, h2, h3⟩ := h; exact ⟨b1, a1, n1, c1, b2, a2, n2, c2, h1, h2.up hu, h3.up hu⟩)), SP.of (fun v w1 => ∃ b1 a1 n1 c1 b2 a2 n2 c2, v = .tuple #[.agg #[.bool b1, .slice a1 n1 c1], .agg #[.bool b2, .slice a2 n2 c2]] ∧ Big w1 (.agg #[.bool b1, .slice a1 n1 c1]) t ∧ Big w1 (.agg #[.bool b2, .slice a2 n2 c2]) u) (fun _ _ _ h hu => (by obtain ⟨b1, a1, n1, c1, b2, a2, n2, c2, h1, h2, h3⟩ := h; exact ⟨b1, a1, n1, c1, b2, a2, n2, c2, h1, h2.up hu, h3.up hu⟩)), SP.of (fun v w1 => Big w1 v t) (fun _ _ _ h hu => h.up hu), SP.of (fun v w1 => Big w1 v u) (fun _ _ _ h hu => h.up hu), SP.of (fun v w1 => ∃ b, v = .pointer (some ⟨b, 0, none⟩) ∧ w3.heap.size ≤ b ∧ Blk w1 b 46 #[.bool false, .slice none 0 0]) (fun _ _ _ h hu => h.imp fun _ k => ⟨k.1, k.2.1, k.2.2.up hu⟩), SP.of (fun v w1 => ∃ b, v = .pointer (some ⟨b, 0, none⟩) ∧ w3.heap.size ≤ b ∧ Blk w1 b 46 #[.bool false, .slice none 0 0]) (fun _ _ _ h hu => h.imp fun _ k => ⟨k.1, k.2.1, k.2.2.up hu⟩), SP.any, SP.any] (fun wq => Blk wq w.heap.size 46 #[.bool p, .slice a n ca] ∧ Blk wq (w.heap.size + 1) 46 #[.bool q, .slice b m cb] ∧ Blk wq wO.heap.size 46 #[.bool qo, .slice ao no co] ∧ Big wq (.agg #[.bool qo, .slice ao no co]) 2 ∧ Up w wq ∧ Up w3 wq ∧ Below w.heap.size w wq) (by kernel_rfl) (by rfl) (by kernel_rfl) (by kernel_rfl) (fun _ _ h hu => ⟨(h.1).up hu, (h.2.1).up hu, (h.2.2.1).up hu, (h.2.2.2.1).up hu, (h.2.2.2.2.1).trans hu, (h.2.2.2.2.2.1).trans hu, below_up (h.2.2.2.2.2.2) hu⟩) ⟨(by first | assumption | exact gBlk), (by first | assumption | exact gBlk), (by first | assumption | exact gBlk), (by assumption), (by first | exact Up.refl _ | assumption), (by first | exact Up.refl _ | assumption), gUp⟩ ⟨fun i o hi => ⟨by rintro rfl; obtain rfl := Option.some.inj (show some _ = some o from hi); rfl, by rintro rfl; obtain rfl := Option.some.inj (show some _ = some o from hi); rfl⟩, (by decide), (fun i v w hi h => by rcases hi with rfl | rfl <;> (obtain ⟨b, rfl, _, h2⟩ := h; exact ⟨b, rfl, h2.lt⟩)), (fun i o ev w hi hk => by rcases hk with rfl | rfl <;> (obtain rfl := Option.some.inj (show some _ = some o from hi); exact ⟨w.alloc (.cells #[.bool false, .slice none 0 0] 46), by go_simp⟩))⟩ (fun ev w9 hS9 i o hne1 hne2 hi hev => ?_) (fun gR wE hq hJ hSE huE o1 o2 ox ho1 ho2 hox => ?_)
  · have ⟨hS1, hS2, hS3, hS4, hS5, hS6, hSB⟩ := hS9
    have hcC := hev.const
    have hcF := hev.func
    have hcG := hev.global
    rcases i with _ | _ | _ | _ | _ | _ | _ | _ | _ | _ | _ | _ | _ | _ | _ | _ | i
    · obtain rfl := Option.some.inj (show some _ = some o from hi)
      have e5 := hev.other 5 (by kernel_rfl)
      simp [Act.eval] at e5
      exact leavesR_value (run_ldBR rfl (by go_simp) hS3 rfl) rfl
    · obtain rfl := Option.some.inj (show some _ = some o from hi)
      have e2 := hev.other 2 (by kernel_rfl)
      simp [Act.eval] at e2
      exact leavesR_value (run_ldBR rfl (by go_simp) hS1 rfl) rfl
    · obtain rfl := Option.some.inj (show some _ = some o from hi)
      have e10 : ev (.tmp 10) = (.agg #[.bool qo, .slice ao no co]) := hev.dep 0 10 (by kernel_rfl)
      have e11 : ev (.tmp 11) = (.agg #[.bool p, .slice a n ca]) := hev.dep 1 11 (by kernel_rfl)
      refine leavesR_call ?_ (HM1.out _ _ _ (e10 ▸ hS4) (e11 ▸ ha.up hS5))
      go_simp
    · obtain rfl := Option.some.inj (show some _ = some o from hi)
      have e3 := hev.other 3 (by kernel_rfl)
      simp [Act.eval] at e3
      exact leavesR_value (run_ldBR rfl (by go_simp) hS2 rfl) rfl
    · obtain rfl := Option.some.inj (show some _ = some o from hi)
      have e12 : (fun v w1 => Big w1 v x2) (ev (.tmp 12)) w9 := hev.dep 2 12 (by kernel_rfl)
      dsimp only at e12
      obtain ⟨v12, hv12⟩ : ∃ v, ev (.tmp 12) = v := ⟨_, rfl⟩
      rw [hv12] at e12
      have e13 : ev (.tmp 13) = (.agg #[.bool q, .slice b m cb]) := hev.dep 3 13 (by kernel_rfl)
      refine leavesR_call ?_ (HA1.out _ _ _ e12 (e13 ▸ hb.up hS5))
      go_simp
    · obtain rfl := Option.some.inj (show some _ = some o from hi)
      have e5 := hev.other 5 (by kernel_rfl)
      simp [Act.eval] at e5
      exact leavesR_value (run_ldBR rfl (by go_simp) hS3 rfl) rfl
    · obtain rfl := Option.some.inj (show some _ = some o from hi)
      have e3 := hev.other 3 (by kernel_rfl)
      simp [Act.eval] at e3
      exact leavesR_value (run_ldBR rfl (by go_simp) hS2 rfl) rfl
    · obtain rfl := Option.some.inj (show some _ = some o from hi)
      have e15 : ev (.tmp 15) = (.agg #[.bool qo, .slice ao no co]) := hev.dep 5 15 (by kernel_rfl)
      have e16 : ev (.tmp 16) = (.agg #[.bool q, .slice b m cb]) := hev.dep 6 16 (by kernel_rfl)
      refine leavesR_call ?_ (HM2.out _ _ _ (e15 ▸ hS4) (e16 ▸ hb.up hS5))
      go_simp
    · obtain rfl := Option.some.inj (show some _ = some o from hi)
      have e14 : (fun v w1 => Big w1 v s) (ev (.tmp 14)) w9 := hev.dep 4 14 (by kernel_rfl)
      dsimp only at e14
      obtain ⟨v14, hv14⟩ : ∃ v, ev (.tmp 14) = v := ⟨_, rfl⟩
      rw [hv14] at e14
      have e17 : (fun v w1 => Big w1 v y2) (ev (.tmp 17)) w9 := hev.dep 7 17 (by kernel_rfl)
      dsimp only at e17
      obtain ⟨v17, hv17⟩ : ∃ v, ev (.tmp 17) = v := ⟨_, rfl⟩
      rw [hv17] at e17
      refine leavesR_call ?_ (HDv.out _ _ _ e14 e17)
      go_simp
    · obtain rfl := Option.some.inj (show some _ = some o from hi)
      have e18 : (fun v w1 => ∃ b1 a1 n1 c1 b2 a2 n2 c2, v = .tuple #[.agg #[.bool b1, .slice a1 n1 c1], .agg #[.bool b2, .slice a2 n2 c2]] ∧ Big w1 (.agg #[.bool b1, .slice a1 n1 c1]) t ∧ Big w1 (.agg #[.bool b2, .slice a2 n2 c2]) u) (ev (.tmp 18)) w9 := hev.dep 8 18 (by kernel_rfl)
      dsimp only at e18
      obtain ⟨v18, hv18⟩ : ∃ v, ev (.tmp 18) = v := ⟨_, rfl⟩
      rw [hv18] at e18
      obtain ⟨b1, a1, n1, c1, b2, a2, n2, c2, rfl, h2⟩ := e18; exact leavesR_value (u := .tuple #[.agg #[.bool b1, .slice a1 n1 c1], .agg #[.bool b2, .slice a2 n2 c2]]) (by go_simp) ⟨_, _, _, _, _, _, _, _, rfl, h2⟩
    · obtain rfl := Option.some.inj (show some _ = some o from hi)
      have e9 : (fun v w1 => ∃ b1 a1 n1 c1 b2 a2 n2 c2, v = .tuple #[.agg #[.bool b1, .slice a1 n1 c1], .agg #[.bool b2, .slice a2 n2 c2]] ∧ Big w1 (.agg #[.bool b1, .slice a1 n1 c1]) t ∧ Big w1 (.agg #[.bool b2, .slice a2 n2 c2]) u) (ev (.tmp 9)) w9 := hev.dep 9 9 (by kernel_rfl)
      dsimp only at e9
      obtain ⟨v9, hv9⟩ : ∃ v, ev (.tmp 9) = v := ⟨_, rfl⟩
      rw [hv9] at e9
      obtain ⟨b1, a1, n1, c1, b2, a2, n2, c2, rfl, h2, h3⟩ := e9; exact leavesR_value (u := .agg #[.bool b1, .slice a1 n1 c1]) (by go_simp) h2
    · obtain rfl := Option.some.inj (show some _ = some o from hi)
      have e9 : (fun v w1 => ∃ b1 a1 n1 c1 b2 a2 n2 c2, v = .tuple #[.agg #[.bool b1, .slice a1 n1 c1], .agg #[.bool b2, .slice a2 n2 c2]] ∧ Big w1 (.agg #[.bool b1, .slice a1 n1 c1]) t ∧ Big w1 (.agg #[.bool b2, .slice a2 n2 c2]) u) (ev (.tmp 9)) w9 := hev.dep 9 9 (by kernel_rfl)
      dsimp only at e9
      obtain ⟨v9, hv9⟩ : ∃ v, ev (.tmp 9) = v := ⟨_, rfl⟩
      rw [hv9] at e9
      obtain ⟨b1, a1, n1, c1, b2, a2, n2, c2, rfl, h2, h3⟩ := e9; exact leavesR_value (u := .agg #[.bool b2, .slice a2 n2 c2]) (by go_simp) h3
    · obtain rfl := Option.some.inj (show some _ = some o from hi)
      exact leavesR_up (u := .pointer (some ⟨w9.heap.size, 0, none⟩)) (w' := w9.alloc (.cells #[.bool false, .slice none 0 0] 46)) (by go_simp) (Up.alloc _ _) ⟨_, rfl, hS6.size, Blk.new _ _ rfl⟩
    · obtain rfl := Option.some.inj (show some _ = some o from hi)
      exact leavesR_up (u := .pointer (some ⟨w9.heap.size, 0, none⟩)) (w' := w9.alloc (.cells #[.bool false, .slice none 0 0] 46)) (by go_simp) (Up.alloc _ _) ⟨_, rfl, hS6.size, Blk.new _ _ rfl⟩
    · exact absurd rfl hne1
    · exact absurd rfl hne2
    · exact absurd (show i + 16 < 16 from (Array.getElem?_eq_some_iff.1 hi).1) (by omega)
  have ⟨hS1, hS2, hS3, hS4, hS5, hS6, hSB⟩ := hSE
  have q0 : gR 10 = (.agg #[.bool qo, .slice ao no co]) := hq 0 10 (by decide) (by decide) (by decide) (by kernel_rfl)
  have q1 : gR 11 = (.agg #[.bool p, .slice a n ca]) := hq 1 11 (by decide) (by decide) (by decide) (by kernel_rfl)
  have q2 : (fun v w1 => Big w1 v x2) (gR 12) wE := hq 2 12 (by decide) (by decide) (by decide) (by kernel_rfl)
  dsimp only at q2
  obtain ⟨v12, hv12⟩ : ∃ v, gR 12 = v := ⟨_, rfl⟩
  rw [hv12] at q2
  have q3 : gR 13 = (.agg #[.bool q, .slice b m cb]) := hq 3 13 (by decide) (by decide) (by decide) (by kernel_rfl)
  have q4 : (fun v w1 => Big w1 v s) (gR 14) wE := hq 4 14 (by decide) (by decide) (by decide) (by kernel_rfl)
  dsimp only at q4
  obtain ⟨v14, hv14⟩ : ∃ v, gR 14 = v := ⟨_, rfl⟩
  rw [hv14] at q4
  have q5 : gR 15 = (.agg #[.bool qo, .slice ao no co]) := hq 5 15 (by decide) (by decide) (by decide) (by kernel_rfl)
  have q6 : gR 16 = (.agg #[.bool q, .slice b m cb]) := hq 6 16 (by decide) (by decide) (by decide) (by kernel_rfl)
  have q7 : (fun v w1 => Big w1 v y2) (gR 17) wE := hq 7 17 (by decide) (by decide) (by decide) (by kernel_rfl)
  dsimp only at q7
  obtain ⟨v17, hv17⟩ : ∃ v, gR 17 = v := ⟨_, rfl⟩
  rw [hv17] at q7
  have q8 : (fun v w1 => ∃ b1 a1 n1 c1 b2 a2 n2 c2, v = .tuple #[.agg #[.bool b1, .slice a1 n1 c1], .agg #[.bool b2, .slice a2 n2 c2]] ∧ Big w1 (.agg #[.bool b1, .slice a1 n1 c1]) t ∧ Big w1 (.agg #[.bool b2, .slice a2 n2 c2]) u) (gR 18) wE := hq 8 18 (by decide) (by decide) (by decide) (by kernel_rfl)
  dsimp only at q8
  obtain ⟨v18, hv18⟩ : ∃ v, gR 18 = v := ⟨_, rfl⟩
  rw [hv18] at q8
  have q9 : (fun v w1 => ∃ b1 a1 n1 c1 b2 a2 n2 c2, v = .tuple #[.agg #[.bool b1, .slice a1 n1 c1], .agg #[.bool b2, .slice a2 n2 c2]] ∧ Big w1 (.agg #[.bool b1, .slice a1 n1 c1]) t ∧ Big w1 (.agg #[.bool b2, .slice a2 n2 c2]) u) (gR 9) wE := hq 9 9 (by decide) (by decide) (by decide) (by kernel_rfl)
  dsimp only at q9
  obtain ⟨v9, hv9⟩ : ∃ v, gR 9 = v := ⟨_, rfl⟩
  rw [hv9] at q9
  have q10 : (fun v w1 => Big w1 v t) (gR 19) wE := hq 10 19 (by decide) (by decide) (by decide) (by kernel_rfl)
  dsimp only at q10
  obtain ⟨v19, hv19⟩ : ∃ v, gR 19 = v := ⟨_, rfl⟩
  rw [hv19] at q10
  have q12 : (fun v w1 => ∃ b, v = .pointer (some ⟨b, 0, none⟩) ∧ w3.heap.size ≤ b ∧ Blk w1 b 46 #[.bool false, .slice none 0 0]) (gR 6) wE := hq 12 6 (by decide) (by decide) (by decide) (by kernel_rfl)
  dsimp only at q12
  obtain ⟨v6, hv6⟩ : ∃ v, gR 6 = v := ⟨_, rfl⟩
  rw [hv6] at q12
  have q13 : (fun v w1 => ∃ b, v = .pointer (some ⟨b, 0, none⟩) ∧ w3.heap.size ≤ b ∧ Blk w1 b 46 #[.bool false, .slice none 0 0]) (gR 7) wE := hq 13 7 (by decide) (by decide) (by decide) (by kernel_rfl)
  dsimp only at q13
  obtain ⟨v7, hv7⟩ : ∃ v, gR 7 = v := ⟨_, rfl⟩
  rw [hv7] at q13
  obtain rfl := Option.some.inj (show some _ = some o1 from ho1)
  obtain rfl := Option.some.inj (show some _ = some o2 from ho2)
  obtain rfl := Option.some.inj (show some _ = some ox from hox)
  rw [hv6, hv7] at hJ
  simp only [putL, List.map_cons, List.map_nil, q0, q1, hv12, q3, hv14, q5, q6, hv17, hv18, hv9, hv19, hv6, hv7, Act.put, pu1, pu2, pu3]
  clear hq hSE q0 q1 q3 q5 q6
  obtain ⟨b4, a4, m4, c4, rfl⟩ := q10.shape
  obtain ⟨z1, rfl, hz1, hBz1⟩ := q12
  obtain ⟨z2, rfl, hz2, hBz2⟩ := q13
  have hne : z2 ≠ z1 := fun e => hJ (by rw [e])
  have hlc := (hBc.up hS6).lt
  have hlw : w.heap.size + 1 + 1 < w3.heap.size := hBc.lt
  have g1 := hBz1.setRow #[.bool b4, .slice a4 m4 c4]
  have g2 := big_set (D := #[.bool b4, .slice a4 m4 c4]) hBz1 q10
  have g3 := Blk.row_other hBz2 #[.bool b4, .slice a4 m4 c4] hne
  have g4 := Blk.row_other (hBc.up hS6) #[.bool b4, .slice a4 m4 c4] (show w.heap.size + 1 + 1 ≠ z1 by omega)
  have g5 : Up w _ := below_setRow hS5 (show w.heap.size ≤ z1 by omega) #[.bool b4, .slice a4 m4 c4]
  refine ⟨fun hx => ?_, ?_⟩
  · obtain hr := hx 20 rfl
    obtain ⟨b5, a5, m5, c5, h5⟩ := hr.shape
    rw [h5] at hr ⊢
    refine wp_stB rfl rfl rfl rfl hBz1 rfl rfl (one2 _ _ _ _) ?_
    refine wp_stB rfl rfl rfl rfl g3 rfl rfl (one2 _ _ _ _) ?_
    have g6 := big_set (D := #[.bool b4, .slice a4 m4 c4]) hBz1 hr
    have k1 := Blk.row_other g1 #[.bool b5, .slice a5 m5 c5] (Ne.symm hne)
    have k2 := big_set (D := #[.bool b5, .slice a5 m5 c5]) g3 g2
    have k3 := Blk.setRow g3 #[.bool b5, .slice a5 m5 c5]
    have k4 := Blk.row_other g4 #[.bool b5, .slice a5 m5 c5] (show w.heap.size + 1 + 1 ≠ z2 by omega)
    have k5 : Up w _ := below_setRow g5 (show w.heap.size ≤ z2 by omega) #[.bool b5, .slice a5 m5 c5]
    have k6 := big_set (D := #[.bool b5, .slice a5 m5 c5]) g3 g6
    obtain ⟨wK, hwK⟩ : ∃ wK, (wE.setRow z1 #[.bool b4, .slice a4 m4 c4]).setRow z2 #[.bool b5, .slice a5 m5 c5] = wK := ⟨_, rfl⟩
    rw [hwK] at k1 k2 k3 k4 k5 k6 ⊢
    clear hwK g1 g2 g3 g4 g5 g6 hS1 hS2 hS3 hS4 hS5 hS6 hSB huE hBz1 hBz2 q9 q10 q2 q4 q7 q8 hBa hBb hBc
    cases sg with
    | true =>
      go_wp2_with (first
        | ((with_reducible apply ldB_P); exact rfl; exact rfl; exact k3; exact rfl)
        | (go_at_call 52; (with_reducible refine (HSg.out _ _ k6).mono ?_); rintro r w7 ⟨rfl, hu7⟩))
      have m1 := k1.up hu7
      have m2 := k2.up hu7
      have m4' := k4.up hu7
      have m5 := k5.trans hu7
      clear k1 k2 k3 k4 k5 k6 hu7
      refine wp_region_sp (n := 28) 3 [24, 25, 26] [SP.is (.agg #[.bool b4, .slice a4 m4 c4]), SP.of (fun v w1 => Big w1 v 1) (fun _ _ _ h hu => h.up hu), SP.of (fun v w1 => Big w1 v (t - 1)) (fun _ _ _ h hu => h.up hu), SP.any] (fun wq => Blk wq z1 46 #[.bool b4, .slice a4 m4 c4] ∧ Blk wq (w.heap.size + 1 + 1) 46 #[.bool false, .slice none 0 0] ∧ Big wq (.agg #[.bool b4, .slice a4 m4 c4]) t ∧ Below w.heap.size w wq) (by kernel_rfl) (by rfl) (by kernel_rfl) (by kernel_rfl) (fun _ _ h hu => ⟨(h.1).up hu, (h.2.1).up hu, (h.2.2.1).up hu, below_up (h.2.2.2) hu⟩) ⟨(by first | assumption | exact gBlk), (by first | assumption | exact gBlk), (by assumption), gUp⟩ (fun ev w9 hS9 i o hne hi hev => ?_) (fun gR wE hq hSE huE => ?_)
      · have ⟨hS1, hS2, hS3, hSB⟩ := hS9
        have hcC := hev.const
        have hcF := hev.func
        have hcG := hev.global
        rcases i with _ | _ | _ | _ | i
        · obtain rfl := Option.some.inj (show some _ = some o from hi)
          have e6 := hev.other 6 (by kernel_rfl)
          simp [Act.eval] at e6
          exact leavesR_value (run_ldBR rfl (by go_simp) hS1 rfl) rfl
        · obtain rfl := Option.some.inj (show some _ = some o from hi)
          refine leavesR_call ?_ (HO1.out _)
          go_simp
        · obtain rfl := Option.some.inj (show some _ = some o from hi)
          have e24 : ev (.tmp 24) = (.agg #[.bool b4, .slice a4 m4 c4]) := hev.dep 0 24 (by kernel_rfl)
          have e25 : (fun v w1 => Big w1 v 1) (ev (.tmp 25)) w9 := hev.dep 1 25 (by kernel_rfl)
          dsimp only at e25
          obtain ⟨v25, hv25⟩ : ∃ v, ev (.tmp 25) = v := ⟨_, rfl⟩
          rw [hv25] at e25
          refine leavesR_call ?_ (HSb.out _ _ _ (e24 ▸ hS3) e25)
          go_simp
        · exact absurd rfl hne
        · exact absurd (show i + 4 < 4 from (Array.getElem?_eq_some_iff.1 hi).1) (by omega)
      have ⟨hS1, hS2, hS3, hSB⟩ := hSE
      have q0 : gR 24 = (.agg #[.bool b4, .slice a4 m4 c4]) := hq 0 24 (by decide) (by kernel_rfl)
      have q1 : (fun v w1 => Big w1 v 1) (gR 25) wE := hq 1 25 (by decide) (by kernel_rfl)
      dsimp only at q1
      obtain ⟨v25, hv25⟩ : ∃ v, gR 25 = v := ⟨_, rfl⟩
      rw [hv25] at q1
      have q2 : (fun v w1 => Big w1 v (t - 1)) (gR 26) wE := hq 2 26 (by decide) (by kernel_rfl)
      dsimp only at q2
      obtain ⟨v26, hv26⟩ : ∃ v, gR 26 = v := ⟨_, rfl⟩
      rw [hv26] at q2
      refine ⟨fun h => absurd h (by decide), fun o ho => ?_⟩
      obtain rfl := Option.some.inj (show some _ = some o from ho)
      simp only [putL, List.map_cons, List.map_nil, q0, hv25, hv26, Act.put, pu1, pu2, pu3]
      clear hq hSE q0
      obtain ⟨b7, a7, n7, c7, rfl⟩ := q2.shape
      refine wp_stB rfl rfl rfl rfl hS2 rfl rfl (one2 _ _ _ _) ?_
      have r1 := hS2.setRow #[.bool b7, .slice a7 n7 c7]
      have r2 := big_set (D := #[.bool b7, .slice a7 n7 c7]) hS2 q2
      have r3 : Up w _ := below_setRow (m5.trans huE) (show w.heap.size ≤ w.heap.size + 1 + 1 by omega) #[.bool b7, .slice a7 n7 c7]
      go_wp2
      exact bodyPost_ret (resB rfl rfl r1 rfl) rfl ⟨r3, _, rfl, by rw [← HRS.out, if_pos trivial]; exact r2⟩
    | false =>
      go_wp2_with (first
        | ((with_reducible apply ldB_P); exact rfl; exact rfl; exact k3; exact rfl)
        | ((with_reducible apply ldB_P); exact rfl; exact rfl; exact k1.up hu7; exact rfl)
        | (go_at_call 52; (with_reducible refine (HSg.out _ _ k6).mono ?_); rintro r w7 ⟨rfl, hu7⟩)
        | ((with_reducible apply stB_P); exact rfl; exact rfl; exact k4.up hu7; exact rfl; exact rfl; exact one2 _ _ _ _
           refine wpL_folded (fun wd => Up w wd ∧ Blk wd (w.heap.size + 1 + 1) 46 #[.bool b4, .slice a4 m4 c4] ∧ Big wd (.agg #[.bool b4, .slice a4 m4 c4]) t) ⟨below_setRow (k5.trans hu7) (by omega) _, Blk.setRow (k4.up hu7) _, big_set (k4.up hu7) (k2.up hu7)⟩ ?_
           rintro w6 ⟨j5, j4, j2⟩))
      exact bodyPost_ret (resB rfl rfl j4 rfl) rfl ⟨j5, _, rfl, by rw [← HRS.out, if_neg (by decide)]; exact j2⟩
  · obtain ⟨b1, a1, m1, c1, b2, a2, m2, c2, rfl, -, hr⟩ := q9
    refine wp_stB rfl rfl rfl rfl hBz1 rfl rfl (one2 _ _ _ _) ?_
    refine wp_val (v := .agg #[.bool b2, .slice a2 m2 c2]) (by go_simp) ?_
    refine wp_stB rfl rfl rfl rfl g3 rfl rfl (one2 _ _ _ _) ?_
    have g6 := big_set (D := #[.bool b4, .slice a4 m4 c4]) hBz1 hr
    have k1 := Blk.row_other g1 #[.bool b2, .slice a2 m2 c2] (Ne.symm hne)
    have k2 := big_set (D := #[.bool b2, .slice a2 m2 c2]) g3 g2
    have k3 := Blk.setRow g3 #[.bool b2, .slice a2 m2 c2]
    have k4 := Blk.row_other g4 #[.bool b2, .slice a2 m2 c2] (show w.heap.size + 1 + 1 ≠ z2 by omega)
    have k5 : Up w _ := below_setRow g5 (show w.heap.size ≤ z2 by omega) #[.bool b2, .slice a2 m2 c2]
    have k6 := big_set (D := #[.bool b2, .slice a2 m2 c2]) g3 g6
    obtain ⟨wK, hwK⟩ : ∃ wK, (wE.setRow z1 #[.bool b4, .slice a4 m4 c4]).setRow z2 #[.bool b2, .slice a2 m2 c2] = wK := ⟨_, rfl⟩
    rw [hwK] at k1 k2 k3 k4 k5 k6 ⊢
    clear hwK g1 g2 g3 g4 g5 g6 hS1 hS2 hS3 hS4 hS5 hS6 hSB huE hBz1 hBz2 q10 q2 q4 q7 q8 hBa hBb hBc
    cases sg with
    | true =>
      go_wp2_with (first
        | ((with_reducible apply ldB_P); exact rfl; exact rfl; exact k3; exact rfl)
        | (go_at_call 52; (with_reducible refine (HSg.out _ _ k6).mono ?_); rintro r w7 ⟨rfl, hu7⟩))
      have m1 := k1.up hu7
      have m2 := k2.up hu7
      have m4' := k4.up hu7
      have m5 := k5.trans hu7
      clear k1 k2 k3 k4 k5 k6 hu7
      refine wp_region_sp (n := 28) 3 [24, 25, 26] [SP.is (.agg #[.bool b4, .slice a4 m4 c4]), SP.of (fun v w1 => Big w1 v 1) (fun _ _ _ h hu => h.up hu), SP.of (fun v w1 => Big w1 v (t - 1)) (fun _ _ _ h hu => h.up hu), SP.any] (fun wq => Blk wq z1 46 #[.bool b4, .slice a4 m4 c4] ∧ Blk wq (w.heap.size + 1 + 1) 46 #[.bool false, .slice none 0 0] ∧ Big wq (.agg #[.bool b4, .slice a4 m4 c4]) t ∧ Below w.heap.size w wq) (by kernel_rfl) (by rfl) (by kernel_rfl) (by kernel_rfl) (fun _ _ h hu => ⟨(h.1).up hu, (h.2.1).up hu, (h.2.2.1).up hu, below_up (h.2.2.2) hu⟩) ⟨(by first | assumption | exact gBlk), (by first | assumption | exact gBlk), (by assumption), gUp⟩ (fun ev w9 hS9 i o hne hi hev => ?_) (fun gR wE hq hSE huE => ?_)
      · have ⟨hS1, hS2, hS3, hSB⟩ := hS9
        have hcC := hev.const
        have hcF := hev.func
        have hcG := hev.global
        rcases i with _ | _ | _ | _ | i
        · obtain rfl := Option.some.inj (show some _ = some o from hi)
          have e6 := hev.other 6 (by kernel_rfl)
          simp [Act.eval] at e6
          exact leavesR_value (run_ldBR rfl (by go_simp) hS1 rfl) rfl
        · obtain rfl := Option.some.inj (show some _ = some o from hi)
          refine leavesR_call ?_ (HO1.out _)
          go_simp
        · obtain rfl := Option.some.inj (show some _ = some o from hi)
          have e24 : ev (.tmp 24) = (.agg #[.bool b4, .slice a4 m4 c4]) := hev.dep 0 24 (by kernel_rfl)
          have e25 : (fun v w1 => Big w1 v 1) (ev (.tmp 25)) w9 := hev.dep 1 25 (by kernel_rfl)
          dsimp only at e25
          obtain ⟨v25, hv25⟩ : ∃ v, ev (.tmp 25) = v := ⟨_, rfl⟩
          rw [hv25] at e25
          refine leavesR_call ?_ (HSb.out _ _ _ (e24 ▸ hS3) e25)
          go_simp
        · exact absurd rfl hne
        · exact absurd (show i + 4 < 4 from (Array.getElem?_eq_some_iff.1 hi).1) (by omega)
      have ⟨hS1, hS2, hS3, hSB⟩ := hSE
      have q0 : gR 24 = (.agg #[.bool b4, .slice a4 m4 c4]) := hq 0 24 (by decide) (by kernel_rfl)
      have q1 : (fun v w1 => Big w1 v 1) (gR 25) wE := hq 1 25 (by decide) (by kernel_rfl)
      dsimp only at q1
      obtain ⟨v25, hv25⟩ : ∃ v, gR 25 = v := ⟨_, rfl⟩
      rw [hv25] at q1
      have q2 : (fun v w1 => Big w1 v (t - 1)) (gR 26) wE := hq 2 26 (by decide) (by kernel_rfl)
      dsimp only at q2
      obtain ⟨v26, hv26⟩ : ∃ v, gR 26 = v := ⟨_, rfl⟩
      rw [hv26] at q2
      refine ⟨fun h => absurd h (by decide), fun o ho => ?_⟩
      obtain rfl := Option.some.inj (show some _ = some o from ho)
      simp only [putL, List.map_cons, List.map_nil, q0, hv25, hv26, Act.put, pu1, pu2, pu3]
      clear hq hSE q0
      obtain ⟨b7, a7, n7, c7, rfl⟩ := q2.shape
      refine wp_stB rfl rfl rfl rfl hS2 rfl rfl (one2 _ _ _ _) ?_
      have r1 := hS2.setRow #[.bool b7, .slice a7 n7 c7]
      have r2 := big_set (D := #[.bool b7, .slice a7 n7 c7]) hS2 q2
      have r3 : Up w _ := below_setRow (m5.trans huE) (show w.heap.size ≤ w.heap.size + 1 + 1 by omega) #[.bool b7, .slice a7 n7 c7]
      go_wp2
      exact bodyPost_ret (resB rfl rfl r1 rfl) rfl ⟨r3, _, rfl, by rw [← HRS.out, if_pos trivial]; exact r2⟩
    | false =>
      go_wp2_with (first
        | ((with_reducible apply ldB_P); exact rfl; exact rfl; exact k3; exact rfl)
        | ((with_reducible apply ldB_P); exact rfl; exact rfl; exact k1.up hu7; exact rfl)
        | (go_at_call 52; (with_reducible refine (HSg.out _ _ k6).mono ?_); rintro r w7 ⟨rfl, hu7⟩)
        | ((with_reducible apply stB_P); exact rfl; exact rfl; exact k4.up hu7; exact rfl; exact rfl; exact one2 _ _ _ _
           refine wpL_folded (fun wd => Up w wd ∧ Blk wd (w.heap.size + 1 + 1) 46 #[.bool b4, .slice a4 m4 c4] ∧ Big wd (.agg #[.bool b4, .slice a4 m4 c4]) t) ⟨below_setRow (k5.trans hu7) (by omega) _, Blk.setRow (k4.up hu7) _, big_set (k4.up hu7) (k2.up hu7)⟩ ?_
           rintro w6 ⟨j5, j4, j2⟩))
      exact bodyPost_ret (resB rfl rfl j4 rfl) rfl ⟨j5, _, rfl, by rw [← HRS.out, if_neg (by decide)]; exact j2⟩
theorem rexact_any {v xv : Value} {N : Int} {l x : List Int} {w : World} (hm : Sm w v N l) (hx : Vw w xv x) (hI : In64 x) (hs : x.length ≤ 1000) : Calls Tryz.prog 27 #[v, xv] w (RExactPost w N l x) := by
  by_cases hC : slC N l x = 0
  · obtain ⟨n, rfl, hD, hxl⟩ := slC_def hC
    exact rexact_ok hm hD hx hxl hI hC
  · exact rexact_bad hm hx hI hs hC
theorem frAt {w : World} {g i : Nat} {C : Array Value} {b b' : Bool} {a a' : Option Addr} {n c n' c' : Nat} (hB : Blk w g 77 C) (h1 : C[i * 4]? = some (.bool b)) (h2 : C[i * 4 + 1]? = some (.slice a n c)) (h3 : C[i * 4 + 2]? = some (.bool b')) (h4 : C[i * 4 + 3]? = some (.slice a' n' c')) :
    w.rangeAt g (i * 4) [.bool b, .slice a n c] ∧ w.rangeAt g (i * 4 + 2) [.bool b', .slice a' n' c'] ∧ w.rangeAt g (i * 4) [.bool b, .slice a n c, .bool b', .slice a' n' c'] := by
  refine ⟨?_, ?_, ?_⟩ <;> intro j v hv
  · rcases j with _ | _ | j
    · simp at hv; subst hv; exact hB.cell _ h1
    · simp at hv; subst hv; exact hB.cell _ h2
    · simp at hv
  · rcases j with _ | _ | j
    · simp at hv; subst hv; exact hB.cell _ h3
    · simp at hv; subst hv; exact hB.cell _ h4
    · simp at hv
  · rcases j with _ | _ | _ | _ | j
    · simp at hv; subst hv; exact hB.cell _ h1
    · simp at hv; subst hv; exact hB.cell _ h2
    · simp at hv; subst hv; exact hB.cell _ h3
    · simp at hv; subst hv; exact hB.cell _ h4
    · simp at hv
theorem cmp_vfit (m : Int) : decide (cmpZ ((m.natAbs : Nat) : Int) 72057594037927936 ≤ 0) = vfit m := by
  unfold cmpZ vfit
  by_cases h : m.natAbs ≤ 72057594037927936
  · rw [decide_eq_true h]
    by_cases h1 : ((m.natAbs : Nat) : Int) < 72057594037927936
    · rw [if_pos h1]; rfl
    · rw [if_neg h1, if_neg (by omega)]; rfl
  · rw [decide_eq_false h, if_neg (by omega), if_pos (by omega)]; rfl
theorem nrN_bp {z D : Int} (hz : z.natAbs < bp 5) (hD : D.natAbs < bp 5) (h0 : 0 < D) : (nrN D z).natAbs < bp 6 := by
  unfold nrN
  have e1 : bp 6 = bp 5 * 18446744073709551616 := bp_succ 5
  have h1 : ((2 * z + D) / (2 * D)).natAbs ≤ (2 * z + D).natAbs := Int.natAbs_ediv_le_natAbs _ _
  omega
def RNearPost (w : World) (N : Int) (l x : List Int) (r : Ending) (w' : World) : Prop := ∃ z, r = .returned (.tuple #[z, .int .i64 (neC N l x)]) ∧ Up w w' ∧ Vw w' z (neL N l x)
set_option maxHeartbeats 16000000 in
theorem rnear_any {v xv : Value} {N : Int} {l x : List Int} {w : World} (hm : Sm w v N l) (hx : Vw w xv x) (hI : In64 x) (hs : x.length ≤ 1000) :
    Calls Tryz.prog 29 #[v, xv] w (RNearPost w N l x) := by
  have HEX := hid (fun w' (hu : Up w w') => rexact_any (hm.up hu) (hx.up hu) hI hs)
  obtain ⟨px, cx, rfl, -, -⟩ := hx
  obtain ⟨s, rfl, ⟨p, cap, rfl, -, -⟩, -, -, -⟩ := hm
  obtain ⟨W0, hW0⟩ : ∃ W0, w.alloc (.cells #[.int .i64 N, .slice p l.length cap] 24) = W0 := ⟨_, rfl⟩
  have hB : Blk W0 w.heap.size 24 #[.int .i64 N, .slice p l.length cap] := by rw [← hW0]; exact Blk.new _ _ rfl
  have hU : Up w W0 := by rw [← hW0]; exact Up.alloc _ _
  unfold RNearPost
  unfold RExactPost at HEX
  obtain ⟨S, hS⟩ : ∃ S, slC N l x = S := ⟨_, rfl⟩
  obtain ⟨C, hC⟩ : ∃ C, neC N l x = C := ⟨_, rfl⟩
  obtain ⟨E, hE⟩ : ∃ E, neL N l x = E := ⟨_, rfl⟩
  obtain ⟨X, hX⟩ : ∃ X, exL N l x = X := ⟨_, rfl⟩
  obtain ⟨D, hD⟩ : ∃ D, slD N.toNat l = D := ⟨_, rfl⟩
  have HS := hid hS
  have HC := hid hC
  have HE := hid hE
  have HX := hid hX
  have HD := hid hD
  rw [hS, hX, hD] at HEX
  rw [hC, hE]
  clear hS hC hE hX hD hI hs
  by_cases h0 : S = 0
  · obtain ⟨n, rfl, hDf, hxl⟩ := slC_def (HS.out.trans h0)
    have hXe : X = slL n l x := by rw [← HX.out]; unfold exL; rw [if_pos (HS.out.trans h0)]; rfl
    have hn8 := hDf.n8
    have hln : X.length = n := by rw [hXe]; exact mk_len _ _
    have HLn := hid hln
    have hDe : D = slD n l := HD.out.symm
    have HAt := hid (fun i (hi : i < n) => show zth X i = slX n l x i from by rw [hXe]; exact mk_at hi)
    have HB5 := hid (fun i => hDf.num_bp i)
    have HDb : Hid (D.natAbs < bp 5 ∧ 0 < D) := hid (by rw [hDe]; exact ⟨hDf.den_bp, hDf.den_pos⟩)
    have hNl : (nrL n l x).length = n := mk_len _ _
    have HNl := hid hNl
    have HNt := hid (fun i (hi : i < n) => show (nrL n l x).take (i + 1) = (nrL n l x).take i ++ [nrN D (slX n l x i)] from by rw [hDe]; exact mk_take_succ (fun i => nrN (slD n l) (slX n l x i)) hi)
    have HNa := hid (fun i (hi : i < n) => show zth (nrL n l x) i = nrN D (slX n l x i) from by rw [hDe]; exact mk_at hi)
    have HC2 : Hid (C = if (nrL n l x).all vfit = true then 0 else 21) := hid (by rw [← HC.out]; unfold neC; rw [if_pos (HS.out.trans h0)]; rfl)
    have HE2 : Hid (E = if C = 0 then nrL n l x else []) := hid (by rw [← HE.out, ← HC.out]; rfl)
    subst h0
    clear hXe hDe hDf hxl hNl
    obtain ⟨R, hR⟩ : ∃ R, nrL n l x = R := ⟨_, rfl⟩
    rw [hR] at HNl HNt HNa HC2 HE2
    clear hR hln
    go_enter Tryz.func29, Tryz.ntmps29
    go_wp2_with (first
      | ((with_reducible apply ldM_P); exact rfl; exact rfl; exact hB; exact rfl)
      | (go_at_call 27; (with_reducible refine (HEX.out _ hU).mono ?_); rintro r w1 ⟨z1, rfl, hu1, hF1⟩; obtain ⟨pz, cz, rfl⟩ := hF1.slice; have hU1 := hU.trans hu1))
    rw [HLn.out]
    have HF1 := hid hF1
    clear hW0 hB hU HEX hu1 hF1
    go_loopg [8, 9] n (fun g ta ti wr => ∃ i : Nat, i ≤ n ∧ n - i ≤ g ∧ ti = .int .i64 (i : Nat) ∧ OwnI wr w1.heap.size ta (R.take i) ∧ (∀ j, j < i → vfit (zth R j) = true) ∧ Up w1 wr)
    case atStart => exact ⟨0, Nat.zero_le _, by omega, rfl, by rw [List.take_zero]; exact OwnI.nil _ _, fun j hj => absurd hj (Nat.not_lt_zero _), Up.refl _⟩
    case round =>
      obtain ⟨i, hi, hig, rfl, hO, hz, hu⟩ := hrel
      have HZ := hid hz
      clear hz
      have hszu := hu.size
      by_cases hlt : i < n
      · obtain ⟨gZ, cz0, CZ, hv, -, hBZ, htZ⟩ := HF1.out.open (by rw [HLn.out]; omega)
        injection hv with x1 _ x3
        subst x1 x3
        obtain ⟨b1, a1, n1, c1, b2, a2, n2, c2, q1, q2, q3, q4, hbz, hbd⟩ := htZ i (by rw [HLn.out]; exact hlt)
        rw [HAt.out i hlt] at hbz
        have HRng := hid (fun w' (hB : Blk w' gZ 77 CZ) => frAt hB q1 q2 q3 q4)
        have hBZr := hBZ.up hu
        have Hbz := hid (hbz.up hu)
        have Hbd := hid (hbd.up hu)
        have e1 : IntKind.i64.wrap ((i : Int) + 1) = (i : Int) + 1 := IntWalk.i64_in _ (by omega)
        have HT9 := hid (HNt.out i hlt)
        have HA9 := hid (HNa.out i hlt)
        have HTk : Hid ((R.take i).length < 1000000) := hid (by rw [List.length_take]; omega)
        have hmb := nrN_bp (HB5.out i) HDb.out.1 HDb.out.2
        have HRo := hid (fun va vb w (ha : Big w va (slX n l x i)) (hb : Big w vb D) => rround_any ha hb HDb.out.2 (B := 5) (by decide) (HB5.out i) HDb.out.1)
        have hln := HLn.out
        clear htZ hBZ q1 q2 q3 q4 hbz hbd
        obtain ⟨z, hz⟩ : ∃ z, slX n l x i = z := ⟨_, rfl⟩
        rw [hz] at HT9 HA9 hmb HRo Hbz
        clear hz
        replace HRo := hid (fun va vb w (ha : Big w va z) (hb : Big w vb D) => show Calls Tryz.prog 67 #[va, vb] w fun r w' => Up w w' ∧ ∃ v, r = .returned v ∧ Big w' v (nrN D z) from HRo.out va vb w ha hb)
        obtain ⟨m, hm⟩ : ∃ m, nrN D z = m := ⟨_, rfl⟩
        rw [hm] at HT9 HA9 hmb HRo
        have nm := nl_bp (k := 6) (by omega) hmb
        have HFi := hid (fun v w (h : Big w v m) => fits_gen (M := 72057594037927936) h nm (by decide) (by decide) (nl_bp (k := 1) (by omega) (i64_bp (by unfold I64; omega))))
        rw [cmp_vfit] at HFi
        have HI6 := hid (fun v w (h : Big w v m) => int64_big h nm)
        clear hm hmb nm
        go_wp2_with fail
        refine wp_region_sp (n := 52) 12 [28, 29, 30, 31, 32, 33, 34, 35, 36, 37, 38, 10] [SP.is (.slice (some ⟨gZ, 0, none⟩) X.length cz), SP.is (.int .i64 (i : Nat)), SP.is (.pointer (some ⟨gZ, i * 4, none⟩)), SP.is (.pointer (some ⟨gZ, i * 4, none⟩)), SP.is (.agg #[.bool b1, .slice a1 n1 c1]), SP.is (.slice (some ⟨gZ, 0, none⟩) X.length cz), SP.is (.int .i64 (i : Nat)), SP.is (.pointer (some ⟨gZ, i * 4, none⟩)), SP.is (.pointer (some ⟨gZ, i * 4 + 2, none⟩)), SP.is (.agg #[.bool b2, .slice a2 n2 c2]), SP.of (fun v w1 => Big w1 v m) (fun _ _ _ h hu => h.up hu), SP.of (fun v w1 => ∃ b, v = .pointer (some ⟨b, 0, none⟩) ∧ wr.heap.size ≤ b ∧ Blk w1 b 46 #[.bool false, .slice none 0 0]) (fun _ _ _ h hu => h.imp fun _ k => ⟨k.1, k.2.1, k.2.2.up hu⟩), SP.any] (fun wq => Blk wq gZ 77 CZ ∧ Up wr wq ∧ Below w.heap.size w wq) (by kernel_rfl) (by rfl) (by kernel_rfl) (by kernel_rfl) (fun _ _ h hu => ⟨(h.1).up hu, (h.2.1).trans hu, below_up (h.2.2) hu⟩) ⟨(by first | assumption | exact gBlk), (by first | exact Up.refl _ | assumption), gUp⟩ (fun ev w9 hS9 i o hne hi hev => ?_) (fun gR wE hq hSE huE => ?_)
        · have ⟨hS1, hS2, hSB⟩ := hS9
          have hcC := hev.const
          have hcF := hev.func
          have hcG := hev.global
          rcases i with _ | _ | _ | _ | _ | _ | _ | _ | _ | _ | _ | _ | _ | i
          · obtain rfl := Option.some.inj (show some _ = some o from hi)
            have e6 := hev.other 6 (by kernel_rfl)
            simp [Act.eval] at e6
            exact leavesR_value (u := .slice (some ⟨gZ, 0, none⟩) X.length cz) (by first | (go_simp; done) | (go_simp; exact rfl)) rfl
          · obtain rfl := Option.some.inj (show some _ = some o from hi)
            have e9 := hev.other 9 (by kernel_rfl)
            simp [Act.eval] at e9
            exact leavesR_value (u := .int .i64 (i : Nat)) (by first | (go_simp; done) | (go_simp; exact rfl)) rfl
          · obtain rfl := Option.some.inj (show some _ = some o from hi)
            have e28 : ev (.tmp 28) = (.slice (some ⟨gZ, 0, none⟩) X.length cz) := hev.dep 0 28 (by kernel_rfl)
            have e29 : ev (.tmp 29) = (.int .i64 (i : Nat)) := hev.dep 1 29 (by kernel_rfl)
            exact leavesR_value (u := .pointer (some ⟨gZ, i * 4, none⟩)) (by first | (go_simp; done) | (go_simp; exact rfl)) rfl
          · obtain rfl := Option.some.inj (show some _ = some o from hi)
            have e30 : ev (.tmp 30) = (.pointer (some ⟨gZ, i * 4, none⟩)) := hev.dep 2 30 (by kernel_rfl)
            exact leavesR_value (u := .pointer (some ⟨gZ, i * 4, none⟩)) (by first | (go_simp; done) | (go_simp; exact rfl)) rfl
          · obtain rfl := Option.some.inj (show some _ = some o from hi)
            have e31 : ev (.tmp 31) = (.pointer (some ⟨gZ, i * 4, none⟩)) := hev.dep 3 31 (by kernel_rfl)
            exact leavesR_value (run_ldB2 rfl e31 (HRng.out _ hS1).1) rfl
          · obtain rfl := Option.some.inj (show some _ = some o from hi)
            have e6 := hev.other 6 (by kernel_rfl)
            simp [Act.eval] at e6
            exact leavesR_value (u := .slice (some ⟨gZ, 0, none⟩) X.length cz) (by first | (go_simp; done) | (go_simp; exact rfl)) rfl
          · obtain rfl := Option.some.inj (show some _ = some o from hi)
            have e9 := hev.other 9 (by kernel_rfl)
            simp [Act.eval] at e9
            exact leavesR_value (u := .int .i64 (i : Nat)) (by first | (go_simp; done) | (go_simp; exact rfl)) rfl
          · obtain rfl := Option.some.inj (show some _ = some o from hi)
            have e33 : ev (.tmp 33) = (.slice (some ⟨gZ, 0, none⟩) X.length cz) := hev.dep 5 33 (by kernel_rfl)
            have e34 : ev (.tmp 34) = (.int .i64 (i : Nat)) := hev.dep 6 34 (by kernel_rfl)
            exact leavesR_value (u := .pointer (some ⟨gZ, i * 4, none⟩)) (by first | (go_simp; done) | (go_simp; exact rfl)) rfl
          · obtain rfl := Option.some.inj (show some _ = some o from hi)
            have e35 : ev (.tmp 35) = (.pointer (some ⟨gZ, i * 4, none⟩)) := hev.dep 7 35 (by kernel_rfl)
            exact leavesR_value (u := .pointer (some ⟨gZ, i * 4 + 2, none⟩)) (by first | (go_simp; done) | (go_simp; exact rfl)) rfl
          · obtain rfl := Option.some.inj (show some _ = some o from hi)
            have e36 : ev (.tmp 36) = (.pointer (some ⟨gZ, i * 4 + 2, none⟩)) := hev.dep 8 36 (by kernel_rfl)
            exact leavesR_value (run_ldB2 rfl e36 (HRng.out _ hS1).2.1) rfl
          · obtain rfl := Option.some.inj (show some _ = some o from hi)
            have e32 : ev (.tmp 32) = (.agg #[.bool b1, .slice a1 n1 c1]) := hev.dep 4 32 (by kernel_rfl)
            have e37 : ev (.tmp 37) = (.agg #[.bool b2, .slice a2 n2 c2]) := hev.dep 9 37 (by kernel_rfl)
            refine leavesR_call ?_ (HRo.out _ _ _ (e32 ▸ Hbz.out.up hS2) (e37 ▸ Hbd.out.up hS2))
            go_simp
          · obtain rfl := Option.some.inj (show some _ = some o from hi)
            exact leavesR_up (u := .pointer (some ⟨w9.heap.size, 0, none⟩)) (w' := w9.alloc (.cells #[.bool false, .slice none 0 0] 46)) (by go_simp) (Up.alloc _ _) ⟨_, rfl, hS2.size, Blk.new _ _ rfl⟩
          · exact absurd rfl hne
          · exact absurd (show i + 13 < 13 from (Array.getElem?_eq_some_iff.1 hi).1) (by omega)
        have ⟨hS1, hS2, hSB⟩ := hSE
        have q0 : gR 28 = (.slice (some ⟨gZ, 0, none⟩) X.length cz) := hq 0 28 (by decide) (by kernel_rfl)
        have q1 : gR 29 = (.int .i64 (i : Nat)) := hq 1 29 (by decide) (by kernel_rfl)
        have q2 : gR 30 = (.pointer (some ⟨gZ, i * 4, none⟩)) := hq 2 30 (by decide) (by kernel_rfl)
        have q3 : gR 31 = (.pointer (some ⟨gZ, i * 4, none⟩)) := hq 3 31 (by decide) (by kernel_rfl)
        have q4 : gR 32 = (.agg #[.bool b1, .slice a1 n1 c1]) := hq 4 32 (by decide) (by kernel_rfl)
        have q5 : gR 33 = (.slice (some ⟨gZ, 0, none⟩) X.length cz) := hq 5 33 (by decide) (by kernel_rfl)
        have q6 : gR 34 = (.int .i64 (i : Nat)) := hq 6 34 (by decide) (by kernel_rfl)
        have q7 : gR 35 = (.pointer (some ⟨gZ, i * 4, none⟩)) := hq 7 35 (by decide) (by kernel_rfl)
        have q8 : gR 36 = (.pointer (some ⟨gZ, i * 4 + 2, none⟩)) := hq 8 36 (by decide) (by kernel_rfl)
        have q9 : gR 37 = (.agg #[.bool b2, .slice a2 n2 c2]) := hq 9 37 (by decide) (by kernel_rfl)
        have q10 : (fun v w1 => Big w1 v m) (gR 38) wE := hq 10 38 (by decide) (by kernel_rfl)
        dsimp only at q10
        obtain ⟨v38, hv38⟩ : ∃ v, gR 38 = v := ⟨_, rfl⟩
        rw [hv38] at q10
        have q11 : (fun v w1 => ∃ b, v = .pointer (some ⟨b, 0, none⟩) ∧ wr.heap.size ≤ b ∧ Blk w1 b 46 #[.bool false, .slice none 0 0]) (gR 10) wE := hq 11 10 (by decide) (by kernel_rfl)
        dsimp only at q11
        obtain ⟨v10, hv10⟩ : ∃ v, gR 10 = v := ⟨_, rfl⟩
        rw [hv10] at q11
        refine ⟨fun h => absurd h (by decide), fun o ho => ?_⟩
        obtain rfl := Option.some.inj (show some _ = some o from ho)
        simp only [putL, List.map_cons, List.map_nil, q0, q1, q2, q3, q4, q5, q6, q7, q8, q9, hv38, hv10, Act.put, pu1, pu2, pu3]
        clear hq hSE q0 q1 q2 q3 q4 q5 q6 q7 q8 q9
        obtain ⟨b7, a7, n7, c7, rfl⟩ := q10.shape
        obtain ⟨bz, rfl, hbz, hBz⟩ := q11
        refine wp_stB rfl rfl rfl rfl hBz rfl rfl (one2 _ _ _ _) ?_
        have kB := hBz.setRow #[.bool b7, .slice a7 n7 c7]
        have kG := big_set (D := #[.bool b7, .slice a7 n7 c7]) hBz q10
        have kU : Up wr _ := below_setRow hS2 hbz #[.bool b7, .slice a7 n7 c7]
        obtain ⟨wL, hwL⟩ : ∃ wL, wE.setRow bz #[.bool b7, .slice a7 n7 c7] = wL := ⟨_, rfl⟩
        rw [hwL] at kB kG kU ⊢
        clear hwL hBz q10 hS1 hS2 hSB huE
        cases hf : vfit m with
        | true =>
          rw [hf] at HFi
          have Hf := hid hf
          have hi6 := i64V_yes (z := m) (by unfold vfit at hf; have := of_decide_eq_true hf; omega)
          rw [hi6] at HI6
          clear hf hi6
          go_wp2_with (first
            | ((with_reducible apply ldB_P); exact rfl; exact rfl; exact kB; exact rfl)
            | ((with_reducible apply ldB_P); exact rfl; exact rfl; exact kB.up hu2; exact rfl)
            | (go_at_call 68; (with_reducible refine (HFi.out _ _ kG).mono ?_); rintro r w2 ⟨rfl, hu2⟩)
            | (go_at_call 69; (with_reducible refine (HI6.out _ _ (kG.up hu2)).mono ?_); rintro r w3 ⟨rfl, hu3⟩)
            | ((with_reducible apply appV); exact rfl; exact rfl; exact OwnI.up (((kU.trans hu2).trans hu3).trans (Up.alloc _ _)) hO; exact vw_one _ _; (focus (have := ((kU.trans hu2).trans hu3).size; simp; omega)); exact HTk.out; (focus (simp; done)); rintro v6 w6 hO6 hb6))
          go_roundg (n - (i + 1))
          case measure => omega
          case rel => exact ⟨i + 1, hlt, Nat.le_refl _, rfl, by rw [HT9.out]; exact hO6, fun j hj => by
            rcases Nat.lt_succ_iff_lt_or_eq.1 hj with h | h
            · exact HZ.out j h
            · rw [h, HA9.out]; exact Hf.out, Below.trans (hu.trans (((kU.trans hu2).trans hu3).trans (Up.alloc _ _))) hb6⟩
        | false =>
          rw [hf] at HFi
          have HC3 : Hid (C = 21) := hid (by
            rw [HC2.out]
            refine if_neg fun h => ?_
            have h1 := List.all_eq_true.1 h (zth R i) (by rw [zth_get (by rw [HNl.out]; exact hlt)]; exact List.getElem_mem _)
            rw [HA9.out, hf] at h1
            cases h1)
          have HE3 : Hid (E = []) := hid (by rw [HE2.out, HC3.out]; rfl)
          clear hf
          go_wp2_with (first
            | ((with_reducible apply ldB_P); exact rfl; exact rfl; exact kB; exact rfl)
            | (go_at_call 68; (with_reducible refine (HFi.out _ _ kG).mono ?_); rintro r w2 ⟨rfl, hu2⟩))
          go_ret2
          exact ⟨_, by rw [HC3.out]; rfl, (hU1.trans hu).trans (kU.trans hu2), by rw [HE3.out]; exact vw_nil _⟩
      · obtain rfl : i = n := by omega
        have hall : R.all vfit = true := List.all_eq_true.2 fun y hy => by
          obtain ⟨j, hj, rfl⟩ := List.mem_iff_getElem.1 hy
          have := HZ.out j (by rw [← HNl.out]; exact hj)
          rw [zth_get hj] at this
          exact this
        have HC3 : Hid (C = 0) := hid (by rw [HC2.out]; exact if_pos hall)
        have HE3 : Hid (E = R) := hid (by rw [HE2.out, HC3.out]; rfl)
        rw [List.take_of_length_le (by rw [HNl.out]; exact Nat.le_refl _)] at hO
        clear hall
        go_wp2_with fail
        go_ret2
        exact ⟨_, by rw [HC3.out]; rfl, hU1.trans hu, by rw [HE3.out]; exact hO.vw⟩
  · have HC2 : Hid (C = S) := hid (by rw [← HC.out]; unfold neC; rw [HS.out]; exact if_neg h0)
    have HE2 : Hid (E = []) := hid (by rw [← HE.out]; unfold neL; rw [HC.out, HC2.out]; exact if_neg h0)
    have d0 : (S != 0) = true := by simpa using h0
    clear h0
    go_enter Tryz.func29, Tryz.ntmps29
    go_wp2_with (first
      | ((with_reducible apply ldM_P); exact rfl; exact rfl; exact hB; exact rfl)
      | (go_at_call 27; (with_reducible refine (HEX.out _ hU).mono ?_); rintro r w1 ⟨z1, rfl, hu1, hF1⟩; obtain ⟨pz, cz, rfl⟩ := hF1.slice; have hU1 := hU.trans hu1))
    go_ret2
    exact ⟨_, by rw [HC2.out]; rfl, hU1, by rw [HE2.out]; exact vw_nil _⟩
theorem undRF0 : (match Tryz.prog.underlying 77 with | some (.struct _) => true | _ => false) = true := by kernel_rfl
theorem undRF1 : ∃ fs, Tryz.prog.underlying 77 = some (.struct fs) := by
  have h := undRF0
  split at h
  · exact ⟨_, by assumption⟩
  · exact absurd h (by decide)
theorem infoRF1 : (Tryz.prog.info? 77).map (·.size) = some 4 := by kernel_rfl
theorem frAt5 {w : World} {g i : Nat} {C : Array Value} {b b' : Bool} {a a' : Option Addr} {n c n' c' : Nat} (hB : Blk w g 77 C) (h1 : C[i * 4]? = some (.bool b)) (h2 : C[i * 4 + 1]? = some (.slice a n c)) (h3 : C[i * 4 + 2]? = some (.bool b')) (h4 : C[i * 4 + 3]? = some (.slice a' n' c')) :
    w.rangeAt g (i * 4) [.bool b, .slice a n c, .bool b', .slice a' n' c'] := by
  intro j v hv
  rcases j with _ | _ | _ | _ | j
  · simp at hv; subst hv; exact hB.cell _ h1
  · simp at hv; subst hv; exact hB.cell _ h2
  · simp at hv; subst hv; exact hB.cell _ h3
  · simp at hv; subst hv; exact hB.cell _ h4
  · simp at hv
theorem frVar {w : World} {g : Nat} {b b' : Bool} {a a' : Option Addr} {n c n' c' : Nat} (hB : Blk w g 77 #[.bool b, .slice a n c, .bool b', .slice a' n' c']) : w.rangeAt g 0 [.bool b, .slice a n c] ∧ w.rangeAt g 2 [.bool b', .slice a' n' c'] := by
  refine ⟨?_, ?_⟩ <;> intro j v hv <;> rcases j with _ | _ | j <;> simp at hv
  · subst hv; exact hB.cell 0 rfl
  · subst hv; exact hB.cell 1 rfl
  · subst hv; exact hB.cell 2 rfl
  · subst hv; exact hB.cell 3 rfl
theorem run_ldRF {o : Oper} {ev : Operand → Value} {x : Operand} {w : World} {g off : Nat} {b b' : Bool} {a a' : Option Addr} {n c n' c' : Nat} (ho : o.op = .load 77 x) (hx : ev x = .pointer (some ⟨g, off, none⟩)) (hC : w.rangeAt g off [.bool b, .slice a n c, .bool b', .slice a' n' c']) :
    (execOp ev o).run Tryz.prog w = .ok (.value (.agg #[.bool b, .slice a n c, .bool b', .slice a' n' c'])) w := by
  obtain ⟨fs, hfs⟩ := undRF1
  unfold execOp
  simp only [ho, hx, Instr.loadAt, Instr.sureAddr, Sem.run_bind, Sem.run_pure, Result.andThen_ok, run_loadVar_mid w g off _ _ _ hC hfs rfl (by rw [infoRF1]; rfl)]
set_option maxHeartbeats 8000000 in
theorem help_frac {z D : Int} {b b' : Bool} {a a' : Option Addr} {n c n' c' : Nat} {w : World} (h1 : Big w (.agg #[.bool b, .slice a n c]) z) (h2 : Big w (.agg #[.bool b', .slice a' n' c']) D) (bz : z.natAbs < bp 15) (bD : D.natAbs < bp 15) :
    Calls Tryz.prog 35 #[.agg (fA z D), .agg #[.bool b, .slice a n c, .bool b', .slice a' n' c']] w fun r w' => r = .returned (.bool true) ∧ Up w w' := by
  have HW1 := hid (fun w' (hu : Up w w') => help_wide (inR_bp (Nat.le_refl _) bz) (h1.up hu) (nl_bp (by omega) bz))
  have HW2 := hid (fun w' (hu : Up w w') => help_wide (inR_bp (Nat.le_refl _) bD) (h2.up hu) (nl_bp (by omega) bD))
  obtain ⟨W0, hW0⟩ : ∃ x, w.alloc (.cells (fA z D) 73) = x := ⟨_, rfl⟩
  have hB0 : Blk W0 w.heap.size 73 (fA z D) := by rw [← hW0]; exact Blk.new _ _ rfl
  have hU0 : Up w W0 := by rw [← hW0]; exact Up.alloc _ _
  have hs0 : W0.heap.size = w.heap.size + 1 := by rw [← hW0]; simp
  obtain ⟨W1, hW1⟩ : ∃ W1, W0.alloc (.cells #[.bool b, .slice a n c, .bool b', .slice a' n' c'] 77) = W1 := ⟨_, rfl⟩
  have hB1 : Blk W1 (w.heap.size + 1) 77 #[.bool b, .slice a n c, .bool b', .slice a' n' c'] := by rw [← hW1]; exact Blk.new _ _ hs0.symm
  have hU1 : Up W0 W1 := by rw [← hW1]; exact Up.alloc _ _
  have hUw := hU0.trans hU1
  have hb0 := hB0.up hU1
  have hX := hid (fun w' (hB : Blk w' w.heap.size 73 (fA z D)) => show w'.rangeAt w.heap.size 0 (wc z) ∧ w'.rangeAt w.heap.size 16 (wc D) from ⟨fc_num (blkF_range hB), by have := fc_den (blkF_range hB); rwa [Nat.zero_add] at this⟩)
  clear h1 h2 bz bD hB0
  unfold wideV at *
  go_enter Tryz.func35, Tryz.ntmps35
  go_wp2_with (first
    | ((with_reducible apply ldW_P); exact rfl; exact rfl; (first | exact (hX.out _ hb0).1 | exact (hX.out _ (hb0.up hu2)).2))
    | ((with_reducible apply ldB2_P); exact rfl; exact rfl; (first | exact (frVar hB1).1 | exact (frVar (hB1.up hu2)).2))
    | (go_at_call 15; first
        | ((with_reducible refine (HW1.out _ hUw).mono ?_); rintro r w2 ⟨rfl, hu2⟩)
        | ((with_reducible refine (HW2.out _ (hUw.trans hu2)).mono ?_); rintro r w3 ⟨rfl, hu3⟩)))
  go_ret
  exact ⟨rfl, (hUw.trans hu2).trans hu3⟩
set_option maxHeartbeats 8000000 in
theorem help_fracs {vf vr : Value} {D : Int} {l : List Int} {w : World} (hf : Fv w vf D l) (hr : RFv w vr D l) (bz : ∀ i, i < l.length → (zth l i).natAbs < bp 15) (bD : 0 < l.length → D.natAbs < bp 15) (h0 : l.length < 1000000) :
    Calls Tryz.prog 31 #[vf, vr] w fun r w' => r = .returned (.bool true) ∧ Up w w' := by
  rcases Nat.eq_zero_or_pos l.length with hz | hz
  · obtain ⟨p1, c1, rfl⟩ := hf.slice
    obtain ⟨p2, c2, rfl⟩ := hr.slice
    rw [hz]
    clear hf hr bz
    go_enter Tryz.func31, Tryz.ntmps31
    go_wp2_with fail
    go_loopg [5] 1 (fun g ti wr => ti = .int .i64 0 ∧ Up w wr)
    case atStart => exact ⟨rfl, Up.refl _⟩
    case round =>
      obtain ⟨rfl, hu⟩ := hrel
      go_wp2_with fail
      go_ret
      exact ⟨rfl, hu⟩
  · obtain ⟨g1, c1, C1, rfl, -, hB1, ht1⟩ := hf.open hz
    obtain ⟨g2, c2, C2, rfl, -, hB2, hE2⟩ := hr.open hz
    have HT := hid ht1
    have HE := hid hE2
    have HI := hid bz
    have HD := hid (bD hz)
    clear hf hr ht1 hE2 bz bD
    go_enter Tryz.func31, Tryz.ntmps31
    go_wp2_with fail
    go_loopg [5] l.length (fun g ti wr => ∃ i : Nat, i ≤ l.length ∧ l.length - i ≤ g ∧ ti = .int .i64 (i : Nat) ∧ Up w wr)
    case atStart => exact ⟨0, Nat.zero_le _, by omega, rfl, Up.refl _⟩
    case round =>
      obtain ⟨i, hi, hig, rfl, hu⟩ := hrel
      by_cases hlt : i < l.length
      · obtain ⟨b, p, n, c, b', p', n', c', q1, q2, q3, q4, q5, q6⟩ := HE.out i hlt
        have HR1 := hid (fun w' (hB : Blk w' g1 73 C1) => fv_range hB HT.out hlt)
        have HR2 := hid (fun w' (hB : Blk w' g2 77 C2) => frAt5 hB q1 q2 q3 q4)
        have HW := hid (fun w' (hu : Up w w') => help_frac (q5.up hu) (q6.up hu) (HI.out i hlt) HD.out)
        have e1 : IntKind.i64.wrap ((i : Int) + 1) = (i : Int) + 1 := IntWalk.i64_in _ (by omega)
        clear q1 q2 q3 q4 q5 q6
        generalize zth l i = z at *
        go_wp2_with fail
        refine wp_region_sp (n := 27) 10 [17, 18, 19, 20, 21, 22, 23, 24, 25, 26] [SP.is (.slice (some ⟨g1, 0, none⟩) l.length c1), SP.is (.int .i64 (i : Nat)), SP.is (.pointer (some ⟨g1, i * 32, none⟩)), SP.is (.agg (fA z D)), SP.is (.slice (some ⟨g2, 0, none⟩) l.length c2), SP.is (.int .i64 (i : Nat)), SP.is (.pointer (some ⟨g2, i * 4, none⟩)), SP.is (.agg #[.bool b, .slice p n c, .bool b', .slice p' n' c']), SP.is (.bool true), SP.is (.bool false)] (fun wq => Up w wq ∧ Below w.heap.size w wq) (by kernel_rfl) (by rfl) (by kernel_rfl) (by kernel_rfl) (fun _ _ h hu => ⟨(h.1).trans hu, below_up (h.2) hu⟩) ⟨(by first | exact Up.refl _ | assumption), gUp⟩ (fun ev w9 hS9 i o hne hi hev => ?_) (fun gR wE hq hSE huE => ?_)
        · have ⟨hS1, hSB⟩ := hS9
          have hcC := hev.const
          have hcF := hev.func
          have hcG := hev.global
          rcases i with _ | _ | _ | _ | _ | _ | _ | _ | _ | _ | i
          · obtain rfl := Option.some.inj (show some _ = some o from hi)
            have e0 := hev.other 0 (by kernel_rfl)
            simp [Act.eval] at e0
            exact leavesR_value (u := .slice (some ⟨g1, 0, none⟩) l.length c1) (by first | (go_simp; done) | (go_simp; exact rfl)) rfl
          · obtain rfl := Option.some.inj (show some _ = some o from hi)
            have e5 := hev.other 5 (by kernel_rfl)
            simp [Act.eval] at e5
            exact leavesR_value (u := .int .i64 (i : Nat)) (by first | (go_simp; done) | (go_simp; exact rfl)) rfl
          · obtain rfl := Option.some.inj (show some _ = some o from hi)
            have e17 : ev (.tmp 17) = (.slice (some ⟨g1, 0, none⟩) l.length c1) := hev.dep 0 17 (by kernel_rfl)
            have e18 : ev (.tmp 18) = (.int .i64 (i : Nat)) := hev.dep 1 18 (by kernel_rfl)
            exact leavesR_value (u := .pointer (some ⟨g1, i * 32, none⟩)) (by first | (go_simp; done) | (go_simp; exact rfl)) rfl
          · obtain rfl := Option.some.inj (show some _ = some o from hi)
            have e19 : ev (.tmp 19) = (.pointer (some ⟨g1, i * 32, none⟩)) := hev.dep 2 19 (by kernel_rfl)
            exact leavesR_value (run_ldF rfl e19 (HR1.out _ (hB1.up hS1))) rfl
          · obtain rfl := Option.some.inj (show some _ = some o from hi)
            have e1 := hev.other 1 (by kernel_rfl)
            simp [Act.eval] at e1
            exact leavesR_value (u := .slice (some ⟨g2, 0, none⟩) l.length c2) (by first | (go_simp; done) | (go_simp; exact rfl)) rfl
          · obtain rfl := Option.some.inj (show some _ = some o from hi)
            have e5 := hev.other 5 (by kernel_rfl)
            simp [Act.eval] at e5
            exact leavesR_value (u := .int .i64 (i : Nat)) (by first | (go_simp; done) | (go_simp; exact rfl)) rfl
          · obtain rfl := Option.some.inj (show some _ = some o from hi)
            have e21 : ev (.tmp 21) = (.slice (some ⟨g2, 0, none⟩) l.length c2) := hev.dep 4 21 (by kernel_rfl)
            have e22 : ev (.tmp 22) = (.int .i64 (i : Nat)) := hev.dep 5 22 (by kernel_rfl)
            exact leavesR_value (u := .pointer (some ⟨g2, i * 4, none⟩)) (by first | (go_simp; done) | (go_simp; exact rfl)) rfl
          · obtain rfl := Option.some.inj (show some _ = some o from hi)
            have e23 : ev (.tmp 23) = (.pointer (some ⟨g2, i * 4, none⟩)) := hev.dep 6 23 (by kernel_rfl)
            exact leavesR_value (run_ldRF rfl e23 (HR2.out _ (hB2.up hS1))) rfl
          · obtain rfl := Option.some.inj (show some _ = some o from hi)
            have e20 : ev (.tmp 20) = (.agg (fA z D)) := hev.dep 3 20 (by kernel_rfl)
            have e24 : ev (.tmp 24) = (.agg #[.bool b, .slice p n c, .bool b', .slice p' n' c']) := hev.dep 7 24 (by kernel_rfl)
            refine leavesR_call ?_ ((HW.out _ hS1).mono fun _ _ h => ⟨h.2, _, h.1, rfl⟩)
            go_simp
          · obtain rfl := Option.some.inj (show some _ = some o from hi)
            have e25 : ev (.tmp 25) = (.bool true) := hev.dep 8 25 (by kernel_rfl)
            exact leavesR_value (u := .bool false) (by go_simp) rfl
          · exact absurd (show i + 10 < 10 from (Array.getElem?_eq_some_iff.1 hi).1) (by omega)
        have ⟨hS1, hSB⟩ := hSE
        have q0 : gR 17 = (.slice (some ⟨g1, 0, none⟩) l.length c1) := hq 0 17 (by decide) (by kernel_rfl)
        have q1 : gR 18 = (.int .i64 (i : Nat)) := hq 1 18 (by decide) (by kernel_rfl)
        have q2 : gR 19 = (.pointer (some ⟨g1, i * 32, none⟩)) := hq 2 19 (by decide) (by kernel_rfl)
        have q3 : gR 20 = (.agg (fA z D)) := hq 3 20 (by decide) (by kernel_rfl)
        have q4 : gR 21 = (.slice (some ⟨g2, 0, none⟩) l.length c2) := hq 4 21 (by decide) (by kernel_rfl)
        have q5 : gR 22 = (.int .i64 (i : Nat)) := hq 5 22 (by decide) (by kernel_rfl)
        have q6 : gR 23 = (.pointer (some ⟨g2, i * 4, none⟩)) := hq 6 23 (by decide) (by kernel_rfl)
        have q7 : gR 24 = (.agg #[.bool b, .slice p n c, .bool b', .slice p' n' c']) := hq 7 24 (by decide) (by kernel_rfl)
        have q8 : gR 25 = (.bool true) := hq 8 25 (by decide) (by kernel_rfl)
        have q9 : gR 26 = (.bool false) := hq 9 26 (by decide) (by kernel_rfl)
        refine ⟨fun _ => ?_, fun o ho => by simp at ho⟩
        simp only [putL, List.map_cons, List.map_nil, q0, q1, q2, q3, q4, q5, q6, q7, q8, q9, Act.put, pu1, pu2, pu3]
        clear hq hSE q0 q1 q2 q3 q4 q5 q6 q7 q8 q9
        go_wp2_with fail
        go_roundg (l.length - (i + 1))
        case measure => omega
        case rel => exact ⟨i + 1, hlt, Nat.le_refl _, rfl, hS1⟩
      · obtain rfl : i = l.length := by omega
        go_wp2_with fail
        go_ret
        exact ⟨rfl, hu⟩
def MV (w : World) (v : Value) : Prop := ∃ N L, SmO w v N L
def Pair (a0 : Int) (s0 : Value) (w : World) (v : Value) : Prop :=
  ∃ g N1 s1 L1, v = .slice (some ⟨g, 0, none⟩) 2 2 ∧ Blk w g 24 #[.int .i64 a0, s0, .int .i64 N1, s1] ∧ SmO w (.agg #[.int .i64 N1, s1]) N1 L1
def IsRowX (k : IntKind) (w : World) (a : Option Addr) (len cap : Nat) (zs : List Int) : Prop :=
  (a = none ∧ len = 0 ∧ cap = 0 ∧ zs = []) ∨
  ∃ x, a = some x ∧ len ≤ cap ∧ cap ≤ maxLen ∧ zs.length = cap ∧ (∀ i, i < zs.length → w.cell? (x.add i) = some (.int k (zs.getD i 0))) ∧ ∀ n ∈ zs, (Lit.int k n).wf = true
theorem zth_take {l : List Int} {k i : Nat} (h : i < k) : zth (l.take k) i = zth l i := by
  unfold zth
  rw [List.getD_eq_getElem?_getD, List.getD_eq_getElem?_getD, List.getElem?_take_of_lt h]
theorem wf_i64 {z : Int} (h : (Lit.int .i64 z).wf = true) : I64 z := by
  have := (Lit.wf_int_iff .i64 z).1 h
  rw [IntKind.min_i64, IntKind.max_i64] at this
  unfold I64; omega
theorem wf_nat {k : IntKind} {z : Int} {m : Nat} (h : (Lit.int k z).wf = true) (h0 : k.min = 0) (h1 : k.max = (m : Int)) : ∃ n : Nat, z = (n : Int) ∧ n < m + 1 := by
  have := (Lit.wf_int_iff k z).1 h
  rw [h0, h1] at this
  exact ⟨z.toNat, by omega, by omega⟩
theorem vw_row {w : World} {a : Option Addr} {len cap : Nat} {zs : List Int} (h : IsRowX .i64 w a len cap zs) : Vw w (.slice a len cap) (zs.take len) ∧ In64 (zs.take len) := by
  rcases h with ⟨rfl, rfl, rfl, rfl⟩ | ⟨x, rfl, hl, hm, hz, hc, hw⟩
  · exact ⟨⟨none, 0, rfl, ⟨Nat.le_refl _, fun _ => rfl⟩, fun i hi => absurd hi (Nat.not_lt_zero _)⟩, fun i hi => absurd hi (Nat.not_lt_zero _)⟩
  · have e : (zs.take len).length = len := by rw [List.length_take]; omega
    refine ⟨⟨some x, cap, by rw [e], ⟨by rw [e]; exact hl, fun e => by cases e⟩, fun i hi => ⟨x, rfl, ?_⟩⟩, fun i hi => ?_⟩
    · rw [e] at hi
      rw [zth_take hi]
      exact hc i (by omega)
    · rw [e] at hi
      rw [zth_take hi, zth_get (by omega)]
      exact wf_i64 (hw _ (List.getElem_mem _))
theorem vh_row {w : World} {a : Option Addr} {len cap : Nat} {zs : List Int} (h : IsRowX .i16 w a len cap zs) : Vh w (.slice a len cap) (zs.take len) ∧ In16 (zs.take len) := by
  rcases h with ⟨rfl, rfl, rfl, rfl⟩ | ⟨x, rfl, hl, hm, hz, hc, hw⟩
  · exact ⟨⟨none, 0, rfl, fun i hi => absurd hi (Nat.not_lt_zero _)⟩, fun i hi => absurd hi (Nat.not_lt_zero _)⟩
  · have e : (zs.take len).length = len := by rw [List.length_take]; omega
    refine ⟨⟨some x, cap, by rw [e], fun i hi => ⟨x, rfl, ?_⟩⟩, fun i hi => ?_⟩
    · rw [e] at hi
      rw [zth_take hi]
      exact hc i (by omega)
    · rw [e] at hi
      rw [zth_take hi, zth_get (by omega)]
      have := (Lit.wf_int_iff .i16 _).1 (hw (zs[i]'(by omega)) (List.getElem_mem _))
      rw [IntKind.min_i16, IntKind.max_i16] at this
      omega
theorem wp_foldT {P : Program} {c : Code} {Q : Exit → Act → World → Prop} {a : Act} {w : World} (R : World → Prop) (h : R w) (k : ∀ w', R w' → c.wp P Q a w') : c.wp P Q a w := k w h
theorem ex_bounds (N : Int) (l x : List Int) : (exL N l x).length ≤ 8 ∧ (∀ i, i < (exL N l x).length → (zth (exL N l x) i).natAbs < bp 15) ∧ (0 < (exL N l x).length → (slD N.toNat l).natAbs < bp 15) := by
  by_cases h0 : slC N l x = 0
  · obtain ⟨n, rfl, hD, -⟩ := slC_def h0
    have e : exL (n : Int) l x = slL n l x := by unfold exL; rw [if_pos h0]; rfl
    have el : (slL n l x).length = n := mk_len _ _
    rw [e, el]
    refine ⟨hD.n8, fun i hi => ?_, fun _ => Nat.lt_of_lt_of_le hD.den_bp (bp_mono (by decide))⟩
    rw [show zth (slL n l x) i = slX n l x i from mk_at hi]
    exact Nat.lt_of_lt_of_le (hD.num_bp i) (bp_mono (by decide))
  · have e : exL N l x = [] := if_neg h0
    rw [e]
    exact ⟨by decide, fun i hi => absurd hi (Nat.not_lt_zero _), fun h => absurd h (Nat.not_lt_zero _)⟩
theorem neL_len (N : Int) (l x : List Int) : (neL N l x).length ≤ 8 := by
  unfold neL
  by_cases h0 : neC N l x = 0
  · rw [if_pos h0]
    unfold neC at h0
    by_cases h1 : slC N l x = 0
    · obtain ⟨n, rfl, hD, -⟩ := slC_def h1
      have el : (nrL n l x).length = n := mk_len _ _
      show (nrL n l x).length ≤ 8
      rw [el]; exact hD.n8
    · rw [if_neg h1] at h0; exact absurd h0 h1
  · rw [if_neg h0]; exact Nat.zero_le _
set_option maxHeartbeats 32000000 in
theorem tells7_w {w : World} {a0 : Int} {p0 : Option Addr} {len0 cap0 : Nat} {l0 : List Int} {vh vv : Value} {hs lv : List Int} (n d : Nat) (sm : Bool) (hg : Glob w) (hraw : Vw w (.slice p0 len0 cap0) l0) (ha0 : I64 a0) (hl0 : In64 l0)
    (hn : n < 256) (hd : d < 65536) (hvh : Vh w vh hs) (h16 : In16 hs) (hvv : Vw w vv lv) (hIv : In64 lv) :
    Calls Tryz.prog 5 #[.agg #[.int .i64 a0, .slice p0 len0 cap0], .int .u8 (n : Nat), .int .u16 (d : Nat), vh, vv, .bool sm] w fun r w' => r = .returned (.bool true) ∧ Up w w' := by
  have HK := hid (fun w' (hu : Up w w') => sknown_true (hg.up hu))
  have HG := hid (fun w' (hu : Up w w') => hg.up hu)
  have HVV := hid (fun w' (hu : Up w w') => Vw.up hu hvv)
  have hlen : len0 = l0.length := by
    obtain ⟨p, c, e, _⟩ := hraw
    injection e
  obtain ⟨ph, ch, rfl, hhc⟩ := hvh
  obtain ⟨pv, cv, rfl, -⟩ := hvv
  obtain ⟨W0, hW0⟩ : ∃ W0, w.alloc (.cells #[.int .i64 a0, .slice p0 len0 cap0] 24) = W0 := ⟨_, rfl⟩
  have hB : Blk W0 w.heap.size 24 #[.int .i64 a0, .slice p0 len0 cap0] := by rw [← hW0]; exact Blk.new _ _ rfl
  have hU : Up w W0 := by rw [← hW0]; exact Up.alloc _ _
  by_cases hA : len0 ≤ 60
  · have d1 : decide ((60 : Int) < (len0 : Int)) = false := decide_eq_false (by omega)
    by_cases hC : hs.length ≤ 60
    · have d2 : decide ((60 : Int) < (hs.length : Int)) = false := decide_eq_false (by omega)
      by_cases hDv : lv.length ≤ 40
      · have d3 : decide ((40 : Int) < (lv.length : Int)) = false := decide_eq_false (by omega)
        have HSm := hid (show Sm w (.agg #[.int .i64 a0, .slice p0 len0 cap0]) a0 l0 from ⟨_, rfl, hraw, ha0, hl0, by omega⟩)
        have HST := hid (fun w' (hu : Up w w') => seat_any n d hn hd (show Vh w' (.slice ph hs.length ch) hs from ⟨ph, ch, rfl, fun i hi => by obtain ⟨a, h1, h2⟩ := hhc i hi; exact ⟨a, h1, hu.cellEq h2⟩⟩) h16 hC)
        clear hraw ha0 hl0 hhc h16 hg hlen hn hd
        have HIV := hid hIv
        have HLV := hid hDv
        clear hIv hDv
        go_enter Tryz.func5, Tryz.ntmps5
        go_upto_region 6 with (first
          | ((with_reducible apply ldM_P); exact rfl; exact rfl; exact hB; exact rfl)
          | (go_at_call 24; (with_reducible refine (HK.out _ hU).mono ?_); rintro r w1 ⟨rfl, hu1⟩; have hB1 := hB.up hu1; have hU1 := hU.trans hu1; have hc1 := hB1.cell 1 rfl)
          | (go_at_call 8; (with_reducible refine (HST.out _ hU1).mono ?_); rintro r w2 ⟨z, N, L, rfl, hu2, hs2, hR⟩; obtain ⟨m0, m8, -, -⟩ := rt_spec hR; obtain ⟨m, rfl⟩ : ∃ m : Nat, N = (m : Int) := ⟨N.toNat, by omega⟩; have hs2' := hs2; obtain ⟨s, base, rfl, hO2, hr2⟩ := hs2'; obtain ⟨p2, n2, c2, rfl⟩ := OwnI.slice hO2)
          | ((with_reducible apply stM_P); exact rfl; exact rfl; exact Blk.new _ _ rfl; exact rfl; exact rfl; exact two2 _ _ _ _ _
             refine wpL_folded (fun wd => Up w2 wd ∧ Blk wd w2.heap.size 24 #[.int .i64 (m : Int), .slice p2 n2 c2] ∧ SmO wd (.agg #[.int .i64 (m : Int), .slice p2 n2 c2]) m L) ⟨gUp, gBlk, (hs2.up (Up.alloc _ _)).setRow (Blk.new _ _ rfl)⟩ ?_
             rintro w3 ⟨hu3, hb3, hs3⟩))
        have hU3 := hU1.trans (hu2.trans hu3)
        have hB3 := hB1.up (hu2.trans hu3)
        have HM8 := hid (show m ≤ 8 by omega)
        obtain ⟨b13, hb13⟩ : ∃ y, w2.heap.size = y := ⟨_, rfl⟩
        rw [hb13] at hb3 ⊢
        have HS3 := hid hs3.sm
        clear hu1 hu2 hu3 hs2 hO2 hB hU hU1 hB1 hW0 hc1 hb13 hs3 hR hr2 m0 m8 HST HK d1 d2 d3
        try simp only [Act.put]
        go_upto_region 7 with (first
          | ((with_reducible apply ldM_P); exact rfl; exact rfl; (first | exact hB3 | exact hb3); exact rfl))
        refine wp_foldT (fun wd => Up w3 wd ∧ Blk wd w3.heap.size 24 #[.int .i64 a0, .slice p0 len0 cap0, .int .i64 (m : Int), .slice p2 n2 c2]) ⟨Up.alloc _ _, Blk.new _ _ rfl⟩ (fun wE hE => ?_)
        obtain ⟨hUE, hP⟩ := hE
        obtain ⟨g1, hg1⟩ : ∃ y, w3.heap.size = y := ⟨_, rfl⟩
        rw [hg1] at hP ⊢
        have hU9 := hU3.trans hUE
        have HMM : Hid (∀ k, k < 2 → ∃ NM pM nM cM LM, (∀ w', Up wE w' → w'.cell? ⟨g1, k * 2, none⟩ = some (.int .i64 NM) ∧ w'.cell? ⟨g1, k * 2 + 1, none⟩ = some (.slice pM nM cM)) ∧ Sm wE (.agg #[.int .i64 NM, .slice pM nM cM]) NM LM) := hid (fun k hk => by
          rcases k with _ | _ | k
          · exact ⟨a0, p0, len0, cap0, l0, fun w' hu => ⟨(hP.up hu).cell 0 rfl, (hP.up hu).cell 1 rfl⟩, HSm.out.up hU9⟩
          · exact ⟨m, p2, n2, c2, L, fun w' hu => ⟨(hP.up hu).cell 2 rfl, (hP.up hu).cell 3 rfl⟩, HS3.out.up hUE⟩
          · omega)
        have HGE := hid (fun w' (hu : Up wE w') => HG.out w' (hU9.trans hu))
        have HVE := hid (fun w' (hu : Up wE w') => HVV.out w' (hU9.trans hu))
        have HU9 := hid hU9
        have hbE := hb3.up hUE
        clear hg1 hUE hP hB3 hb3 HSm HS3 hU3 hU9 HG HVV
        go_loopg [49] 2 (fun g tk wr => ∃ k : Nat, k ≤ 2 ∧ 2 - k ≤ g ∧ tk = .int .i64 (k : Nat) ∧ Up wE wr)
        case atStart => exact ⟨0, by omega, by omega, rfl, Up.refl _⟩
        case round =>
          obtain ⟨k, hk, hkg, rfl, hu⟩ := hrel
          by_cases hlt : k < 2
          · obtain ⟨NM, pM, nM, cM, LM, hcM, hSM⟩ := HMM.out k hlt
            obtain ⟨hcx0, hcx1⟩ := hcM _ hu
            have HSM0 := hid hSM
            have dk : decide ((k : Int) < 2) = true := decide_eq_true (by omega)
            clear hcM hSM
            go_upto_region 9 with (first
              | ((with_reducible apply stM_P); exact rfl; exact rfl; exact Blk.new _ _ rfl; exact rfl; exact rfl; exact two2 _ _ _ _ _))
            refine wp_foldT (fun wd => Up wr wd ∧ Blk wd wr.heap.size 24 #[.int .i64 NM, .slice pM nM cM]) ⟨gUp, gBlk⟩ (fun wA hA => ?_)
            obtain ⟨huA, hbm⟩ := hA
            have hUA := hu.trans huA
            obtain ⟨bm, hbm9⟩ : ∃ x, wr.heap.size = x := ⟨_, rfl⟩
            rw [hbm9] at hbm ⊢
            have HSA := hid (HSM0.out.up hUA)
            have hbA := hbE.up hUA
            clear hcx0 hcx1 hu huA hbm9 HSM0
            have HVA := hid (fun w' (hu : Up wA w') => HVE.out w' (hUA.trans hu))
            have HGA := hid (fun w' (hu : Up wA w') => HGE.out w' (hUA.trans hu))
            have HUA := hid hUA
            clear hUA hbE
            go_upto_if 56 with fail
            go_cut [16] (fun t16 wc => ∃ p c X, t16 = .slice p X.length c ∧ Vw wc (.slice p X.length c) X ∧ In64 X ∧ X.length ≤ 60 ∧ Up wA wc)
            case first =>
              obtain rfl | rfl : k = 0 ∨ k = 1 := by omega
              · go_wp2_with fail
                go_meet
                exact ⟨pv, cv, lv, rfl, HVA.out _ (Up.refl _), HIV.out, by have := HLV.out; omega, Up.refl _⟩
              · have hl60 : lv.length ≤ 60 := by have := HLV.out; omega
                have HVc := hid (fun w' (hu : Up wA w') => vec_any (p := p2) (nn := n2) (cc := c2) m sm rfl HM8.out (HVA.out w' hu) HIV.out hl60)
                go_wp2_with (first
                  | ((with_reducible apply ldM_P); exact rfl; exact rfl; exact hbA; exact rfl)
                  | (go_at_call 25; (with_reducible refine (HVc.out _ (Up.refl _)).mono ?_); rintro r w4 ⟨z4, b4, rfl, hu4, hb4, hO4⟩; obtain ⟨p4, n4, c4, rfl⟩ := OwnI.slice hO4))
                go_meet
                obtain rfl : n4 = (vecL lv sm m).length := by
                  obtain ⟨p, c, e, _⟩ := OwnI.vw hO4
                  injection e
                exact ⟨p4, c4, vecL lv sm m, rfl, hO4.vw, vecL_in HIV.out sm m (by have := HM8.out; omega), by rw [vecL_len]; have := HM8.out; omega, hu4⟩
            case rest =>
              obtain ⟨px, cx, X, rfl, hVX, hIX, hX60, hUc⟩ := hcut
              have hbc := hbm.up hUc
              have HSc := hid (HSA.out.up hUc)
              have HEX := hid (fun w' (hu : Up wc w') => exact_any (HSc.out.up hu) (hVX.up hu) hIX (by omega))
              have HRX := hid (fun w' (hu : Up wc w') => rexact_any (HSc.out.up hu) (hVX.up hu) hIX (by omega))
              have HEN := hid (fun w' (hu : Up wc w') => near_sol (HSc.out.up hu) (hVX.up hu) hIX (by omega))
              have HRN := hid (fun w' (hu : Up wc w') => rnear_any (HSc.out.up hu) (hVX.up hu) hIX (by omega))
              have HGc := hid (fun w' (hu : Up wc w') => HGA.out w' (hUc.trans hu))
              obtain ⟨e8, eb, ed⟩ := ex_bounds NM LM X
              have n8 := neL_len NM LM X
              have HFr := hid (fun w' vf vr (hf : Fv w' vf (slD NM.toNat LM) (exL NM LM X)) (hr : RFv w' vr (slD NM.toNat LM) (exL NM LM X)) => help_fracs hf hr eb ed (by omega))
              have HIn := hid (fun w' a b (ha : Vw w' a (neL NM LM X)) (hb : Vw w' b (neL NM LM X)) => ints_eq ha hb (by omega))
              have HUc := hid (HUA.out.trans hUc)
              clear hVX hIX hX60 hUc HSc e8 eb ed n8 hbA hbm HSA HVA HGA HUA
              unfold ExactPost at HEX
              unfold RExactPost at HRX
              unfold NearPost at HEN
              unfold RNearPost at HRN
              generalize slD NM.toNat LM = D at *
              generalize exL NM LM X = EL at *
              generalize neL NM LM X = NL at *
              generalize slC NM LM X = S at *
              generalize neC NM LM X = C at *
              go_wp2_with (first
                | ((with_reducible apply ldM_P); exact rfl; exact rfl; (first | exact hbc | exact hbc.up hu1 | exact (hbc.up hu1).up hu2 | exact ((hbc.up hu1).up hu2).up hu3); exact rfl)
                | (go_at_call 26; (with_reducible refine (HEX.out _ (Up.refl _)).mono ?_); rintro r w1 ⟨z1, u1, rfl, hu1, hF1, -, he1⟩)
                | (go_at_call 27; (with_reducible refine (HRX.out _ hu1).mono ?_); rintro r w2 ⟨z2, rfl, hu2, hF2⟩)
                | (go_at_call 28; (with_reducible refine (HEN.out _ (hu1.trans hu2)).mono ?_); rintro r w3 ⟨z3, u3, rfl, hu3, hV3, -, he3⟩)
                | (go_at_call 29; (with_reducible refine (HRN.out _ ((hu1.trans hu2).trans hu3)).mono ?_); rintro r w4 ⟨z4, rfl, hu4, hV4⟩)
                | (go_at_call 30; first
                    | ((with_reducible refine (ssays_any (he1.up ((hu2.trans hu3).trans hu4)) (HGc.out _ (((hu1.trans hu2).trans hu3).trans hu4))).mono ?_); rintro r w5 ⟨rfl, hu5⟩)
                    | ((with_reducible refine (ssays_any (he3.up ((hu4.trans hu5).trans hu6)) (HGc.out _ (((((hu1.trans hu2).trans hu3).trans hu4).trans hu5).trans hu6))).mono ?_); rintro r w7 ⟨rfl, hu7⟩))
                | (go_at_call 31; (with_reducible refine (HFr.out _ _ _ (hF1.up (((hu2.trans hu3).trans hu4).trans hu5)) (hF2.up ((hu3.trans hu4).trans hu5))).mono ?_); rintro r w6 ⟨rfl, hu6⟩)
                | (go_at_call 32; (with_reducible refine (HIn.out _ _ _ (hV3.up (((hu4.trans hu5).trans hu6).trans hu7)) (hV4.up ((hu5.trans hu6).trans hu7))).mono ?_); rintro r w8 ⟨rfl, hu8⟩))
              go_roundg (2 - (k + 1))
              case measure => omega
              case rel => exact ⟨k + 1, by omega, Nat.le_refl _, rfl, HUc.out.trans ((((((((hu1.trans hu2).trans hu3).trans hu4).trans hu5).trans hu6).trans hu7)).trans hu8)⟩
          · obtain rfl : k = 2 := by omega
            go_wp2_with fail
            go_ret
            exact ⟨rfl, HU9.out.trans hu⟩
      · have d3 : decide ((40 : Int) < (lv.length : Int)) = true := decide_eq_true (by omega)
        clear hraw ha0 hl0 hhc h16 hg hlen hn hd hIv
        go_enter Tryz.func5, Tryz.ntmps5
        go_wp2_with (first
          | ((with_reducible apply ldM_P); exact rfl; exact rfl; exact hB; exact rfl)
          | (go_at_call 24; (with_reducible refine (HK.out _ hU).mono ?_); rintro r w1 ⟨rfl, hu1⟩; replace hB := hB.up hu1; replace hU := hU.trans hu1; have hc1 := hB.cell 1 rfl))
        go_ret
        exact ⟨rfl, hU⟩
    · have d2 : decide ((60 : Int) < (hs.length : Int)) = true := decide_eq_true (by omega)
      clear hraw ha0 hl0 hhc h16 hg hlen hn hd hIv
      go_enter Tryz.func5, Tryz.ntmps5
      go_wp2_with (first
        | ((with_reducible apply ldM_P); exact rfl; exact rfl; exact hB; exact rfl)
        | (go_at_call 24; (with_reducible refine (HK.out _ hU).mono ?_); rintro r w1 ⟨rfl, hu1⟩; replace hB := hB.up hu1; replace hU := hU.trans hu1; have hc1 := hB.cell 1 rfl))
      go_ret
      exact ⟨rfl, hU⟩
  · have d1 : decide ((60 : Int) < (len0 : Int)) = true := decide_eq_true (by omega)
    clear hraw ha0 hl0 hhc h16 hg hlen hn hd hIv
    go_enter Tryz.func5, Tryz.ntmps5
    go_wp2_with (first
      | ((with_reducible apply ldM_P); exact rfl; exact rfl; exact hB; exact rfl)
      | (go_at_call 24; (with_reducible refine (HK.out _ hU).mono ?_); rintro r w1 ⟨rfl, hu1⟩; replace hB := hB.up hu1; replace hU := hU.trans hu1; have hc1 := hB.cell 1 rfl))
    go_ret
    exact ⟨rfl, hU⟩
theorem tells7_row {w : World} {a0 a1 a2 : Int} {a5 : Bool} {p0 p3 p4 : Option Addr} {len0 cap0 len3 cap3 len4 cap4 : Nat} {z0 z3 z4 : List Int} (hg : Glob w) (wf0 : (Lit.int .i64 a0).wf = true) (w0 : IsRowX .i64 w p0 len0 cap0 z0)
    (w1 : (Lit.int .u8 a1).wf = true) (w2 : (Lit.int .u16 a2).wf = true) (w3 : IsRowX .i16 w p3 len3 cap3 z3) (w4 : IsRowX .i64 w p4 len4 cap4 z4) :
    Calls Tryz.prog 5 #[.agg #[.int .i64 a0, .slice p0 len0 cap0], .int .u8 a1, .int .u16 a2, .slice p3 len3 cap3, .slice p4 len4 cap4, .bool a5] w fun r w' => r = .returned (.bool true) ∧ Up w w' := by
  obtain ⟨n, rfl, hn⟩ := wf_nat (m := 255) w1 IntKind.min_u8 IntKind.max_u8
  obtain ⟨d, rfl, hd⟩ := wf_nat (m := 65535) w2 IntKind.min_u16 IntKind.max_u16
  exact tells7_w n d a5 hg (vw_row w0).1 (wf_i64 wf0) (vw_row w0).2 hn hd (vh_row w3).1 (vh_row w3).2 (vw_row w4).1 (vw_row w4).2
end Go.Proofs.YtnpaodlhhcnbgaaGreatDoor
namespace Go.Proofs.YtnpaodlhhcnbgaaGreatDoor
open Go.ChangeShapes Go.WideShapes Go.RowKit
set_option maxRecDepth 100000
theorem own4 : ownKnob Tryz.prog.godebug = none := by kernel_rfl
theorem et4 : Tryz.prog.globalNamed "errors.errorType" = some 0 := by kernel_rfl
theorem rt4 : (Tryz.prog.cutTypes.find? (·.1 == "internal/reflectlite.rtype")).map (·.2) = some 189 := by kernel_rfl
theorem oneRow4 : ((List.range 241).filter fun t => Tryz.prog.rowNamed t [101, 114, 114, 111, 114]) = [35] := by kernel_rfl
theorem size4 : Tryz.prog.types.size = 241 := by kernel_rfl
theorem glob_of_laid {W : World} (h : laidMetH Tryz.prog [("errors.errorType", Rows.laid_errors_errorType)] W) : Glob W := by
  have h' : laidMet Tryz.prog [] W ∧ handlesMet Tryz.prog [("errors.errorType", Rows.laid_errors_errorType)] W := h
  obtain ⟨name, u, ty, e1, e2, e3, e4, e5⟩ := h'.2 _ (List.mem_singleton.2 rfl)
  have en : name = [101, 114, 114, 111, 114] := (Option.some.inj e1).symm
  subst en
  obtain rfl := Option.some.inj (rt4.symm.trans e2)
  have hm : ty ∈ (List.range 241).filter fun t => Tryz.prog.rowNamed t [101, 114, 114, 111, 114] := List.mem_filter.2 ⟨List.mem_range.2 (by rw [← size4]; exact e3), e4⟩
  rw [oneRow4] at hm
  obtain rfl := List.mem_singleton.1 hm
  have hh : typeHandle Tryz.prog 35 = .pointer (some ⟨3, 35, none⟩) := by kernel_rfl
  rw [hh] at e5
  unfold Glob
  simpa using World.var?_cell et4 e5 0
noncomputable def laidWorld (os : Os) : World :=
  let w0 := World.holding Tryz.prog os ⟨#[], #[], []⟩
  { w0 with heap := w0.heap.modify 0 fun
      | .cells _ t frozen => .cells #[.iface 189 (.agg #[.pointer (some ⟨3, 35, none⟩)])] t frozen
      | o => o }
theorem laidWorld_met (os : Os) (args : Array Value) : laidMetH Tryz.prog [("errors.errorType", Rows.laid_errors_errorType)] ((laidWorld os).forCall (fun _ _ => 0) ⟨#[], args, []⟩).memory :=
  laidMetH_of_parts (laidMet_nil _ _) (by kernel_rfl)
end Go.Proofs.YtnpaodlhhcnbgaaGreatDoor
