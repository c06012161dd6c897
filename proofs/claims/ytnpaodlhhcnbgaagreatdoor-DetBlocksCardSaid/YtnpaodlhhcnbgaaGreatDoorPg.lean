import Derived.Test.YtnpaodlhhcnbgaaGreatDoorPf
import Derived.Deep.DeepCutAuto
import Derived.OwnWalk
import Derived.Laws.CopyOwn
import Derived.DataShut
namespace Go.Proofs.YtnpaodlhhcnbgaaGreatDoor
open Go Go.RowKit
set_option maxRecDepth 100000
theorem wp_fold {P : Program} {c : Code} {Q : Exit → Act → World → Prop} {a : Act} {w : World} (R : World → Prop) (h : R w) (k : ∀ w', R w' → c.wp P Q a w') : c.wp P Q a w := k w h
theorem rneg_big {v : Value} {z : Int} {w : World} (h : Big w v z) : Calls Tryz.prog 53 #[v] w fun r w' => Up w w' ∧ ∃ u, r = .returned u ∧ Big w' u (-z) := by
  obtain ⟨b, a, n, c, rfl, hB⟩ := big_neg h
  exact (neg_any b a n c w).mono fun _ _ hh => ⟨hh.2, _, hh.1, hB.up hh.2⟩
def DR (w : World) (base bR bG bQ n : Nat) (av : Value) (D : Int) (k : Nat) (wr : World) : Prop :=
  ∃ G gb gp gn gc σ b0 p0 n0 c0 q M V, DI w base bR bG bQ n av G gb gp gn gc σ b0 p0 n0 c0 q V wr ∧ Left n k M V ∧ St q k M ∧ Full q (n - k) M (σ * D) ∧ (σ = 1 ∨ σ = -1)
def DR2 (w : World) (base bR bG bQ n : Nat) (av : Value) (D : Int) (k : Nat) (wr : World) : Prop :=
  ∃ G gb gp gn gc σ b0 p0 n0 c0 q M V, DI w base bR bG bQ n av G gb gp gn gc σ b0 p0 n0 c0 q V wr ∧ Left n k M V ∧ St q k M ∧ Full q (n - k) M (σ * D) ∧ (σ = 1 ∨ σ = -1) ∧ M 0 0 ≠ 0
theorem Left.swap {n k p : Nat} {M V : Nat → Nat → Int} (h : Left n k M V) (hk : k < n) (hkp : k ≤ p) (hp : p < n) (hne : p ≠ k) : Left n k (fun i j => M (swp (p - k) i) j) (fun r => V (exch p k r)) := fun r c h1 h2 h3 h4 => by
  show V (exch p k r) c = M (swp (p - k) (r - k)) (c - k)
  unfold exch swp
  by_cases e1 : r = p
  · rw [if_pos e1, if_neg (by omega), if_pos (by omega), h k c (Nat.le_refl _) hk h3 h4, Nat.sub_self]
  · rw [if_neg e1]
    by_cases e2 : r = k
    · rw [if_pos e2, if_pos (by omega), h p c hkp hp h3 h4]
    · rw [if_neg e2, if_neg (by omega), if_neg (by omega), h r c h1 h2 h3 h4]
set_option maxHeartbeats 32000000 in
theorem rdet_any {v : Value} {n : Nat} {l : List Int} {w : World} (hm : Sm w v n l) (hR : rt n l = true) :
    Calls Tryz.prog 16 #[v] w fun r w' => Up w w' ∧ ∃ u, r = .returned u ∧ Big w' u (det n (AM n l)) := by
  have hn : n ≤ 8 := by have := (rt_spec hR).2.1; omega
  have HRW := hid (fun w' (hu : Up w w') => rows_any (hm.up hu) hR (s := 1) (k := 0) (by unfold I64; omega) (by unfold I64; omega))
  have HO1 := hid (fun w => of_big 1 (by decide) (by decide) w)
  have HStA := hid (St.start hR)
  have HSt1 := hid (St.start hR).2.2
  have HFuA := hid (Full.start n (AM n l))
  have HREA := hid (RE_AM (n := n) l)
  obtain ⟨D, hD⟩ : ∃ D, det n (AM n l) = D := ⟨_, rfl⟩
  rw [hD] at HFuA ⊢
  obtain ⟨A, hA⟩ : ∃ A, AM n l = A := ⟨_, rfl⟩
  rw [hA] at HStA HFuA HREA
  obtain ⟨s0, rfl, ⟨p, cap, rfl, -, -⟩, -, -, -⟩ := hm
  obtain ⟨W0, hW0⟩ : ∃ W0, (w.alloc (.cells #[.int .i64 n, .slice p l.length cap] 24)).alloc (.cells #[.bool false, .slice none 0 0] 46) = W0 := ⟨_, rfl⟩
  have hB : Blk W0 w.heap.size 24 #[.int .i64 n, .slice p l.length cap] := by rw [← hW0]; exact (Blk.new _ _ rfl).old _
  have hQ : Blk W0 (w.heap.size + 1) 46 #[.bool false, .slice none 0 0] := by rw [← hW0]; exact Blk.new _ _ (by simp)
  have hU : Up w W0 := by rw [← hW0]; exact (Up.alloc _ _).trans (Up.alloc _ _)
  clear hD hA hR
  go_enter Tryz.func16, Tryz.ntmps16
  go_upto_region 2 with (first
    | ((with_reducible apply ldM_P); exact rfl; exact rfl; exact hB; exact rfl)
    | (go_at_call 51; (with_reducible refine (HRW.out _ hU).mono ?_); rintro r w1 ⟨z1, b1, G1, rfl, hu1, hb1, hb2, hO1⟩))
  have hM := hO1.congr HREA.out
  have hQ1 := hQ.up hu1
  have hU1 := hU.trans hu1
  clear hW0 hB hO1 HREA HRW
  go_wp2_with fail
  refine (HO1.out _).mono ?_
  rintro r w2 ⟨hu2, v2, rfl, hB2⟩
  obtain ⟨b2, a2, n2, c2, rfl⟩ := hB2.shape
  go_wp2_with fail
  refine (HO1.out _).mono ?_
  rintro r w3 ⟨hu3, v3, rfl, hB3⟩
  obtain ⟨b3, a3, n3, c3, rfl⟩ := hB3.shape
  go_upto_region 3 with (first | ((with_reducible apply stB_P); exact rfl; exact rfl; exact gBlk; exact rfl; exact rfl; exact one2 _ _ _ _))
  refine wp_fold (fun wd => Blk wd w3.heap.size 46 #[.bool b2, .slice a2 n2 c2] ∧ Blk wd (w3.heap.size + 1) 46 #[.bool b3, .slice a3 n3 c3] ∧ Big wd (.agg #[.bool b2, .slice a2 n2 c2]) 1 ∧ Big wd (.agg #[.bool b3, .slice a3 n3 c3]) 1 ∧ Up w3 wd) ⟨gBlk, gBlk, (by have hB2 := hB2.up hu3; exact (by (repeat (first | assumption | ((with_reducible apply big_set); exact gBlk) | (with_reducible apply big_alloc) | ((with_reducible apply big_up); assumption))); done)), (by (repeat (first | assumption | ((with_reducible apply big_set); exact gBlk) | (with_reducible apply big_alloc) | ((with_reducible apply big_up); assumption))); done), gUp⟩ (fun w4 hD4 => ?_)
  obtain ⟨hG4, hQ4, hz4, hq4, hu4⟩ := hD4
  have hz3 := hu3.size
  have hz2 := hu2.size
  have hz1 := hu1.size
  have hq1 := hQ1.lt
  have hU34 := (hu2.trans hu3).trans hu4
  have hs0 : w.heap.size + 2 ≤ b1 := by have := hQ.lt; omega
  obtain ⟨pA, cA, rfl⟩ := hM.slice
  have hDI : DI w b1 (w.heap.size + 1) w3.heap.size (w3.heap.size + 1) n (.slice pA n cA) G1 b2 a2 n2 c2 1 b3 a3 n3 c3 1 A w4 :=
    ⟨hM.up hU34, hQ1.up hU34, hG4, hz4, hQ4, hq4, hU1.trans hU34, fun i hi => by obtain ⟨_, _, _, h3, _⟩ := hM; have ⟨x1, x2⟩ := h3 i hi; have x3 := x2.lt; omega, by omega, by omega, by omega, by omega⟩
  obtain ⟨bG, hbG⟩ : ∃ y, w3.heap.size = y := ⟨_, rfl⟩
  obtain ⟨bR, hbR⟩ : ∃ y, w.heap.size + 1 = y := ⟨_, rfl⟩
  rw [hbG, hbR] at hDI ⊢
  have hDR : DR w b1 bR bG (bG + 1) n (.slice pA n cA) D 0 w4 :=
    ⟨_, _, _, _, _, _, _, _, _, _, _, A, A, hDI, Left.start fun _ _ _ _ => rfl, HStA.out, by rw [Nat.sub_zero, Int.one_mul]; exact HFuA.out, .inl rfl⟩
  have HO2 := hid (fun w v (h : Big w v 0) => rsign_big h)
  clear hu1 hu2 hu3 hu4 hU34 hz1 hz2 hz3 hq1 hs0 hM hQ hQ1 hU1 hU hB2 hB3 hG4 hQ4 hz4 hq4 hDI HStA HFuA HO1 HO2 hb1 hb2 hbG hbR
  go_wp2_with fail
  go_loopg [6] n (fun g t6 wr => ∃ k : Nat, k ≤ n ∧ n - k ≤ g ∧ t6 = .int .i64 (k : Nat) ∧ DR w b1 bR bG (bG + 1) n (.slice pA n cA) D k wr)
  case atStart => exact ⟨0, Nat.zero_le _, by omega, rfl, hDR⟩
  case round =>
    clear hDR
    obtain ⟨k, hk, hkg, rfl, G, gb, gp, gn, gc, σ, b0, p0, n0, c0, q, M, V, hDI, hL, hSt, hFu, hσ⟩ := hrel
    have HL := hid hL
    have HSt := hid hSt
    have HFu := hid hFu
    have HSg := hid hσ
    have HDI := hid hDI
    clear hL hSt hFu hσ hDI
    by_cases hlt : k < n
    · obtain ⟨s, hs⟩ : ∃ s, n - k = s + 1 := ⟨n - k - 1, by omega⟩
      have e1 : IntKind.i64.wrap ((k : Int) + 1) = (k : Int) + 1 := IntWalk.i64_in _ (by omega)
      obtain ⟨gA, cA', CA, hvA, -, hcA, hBA, hEA⟩ := HDI.out.m.open (by omega)
      injection hvA with x1 _ x3
      subst x1 x3
      go_wp2_with fail
      clear hBA hEA hcA
      obtain ⟨wA, hwA⟩ : ∃ y, wr = y := ⟨_, rfl⟩
      rw [hwA] at HDI ⊢
      clear hwA
      go_loopg [7] n (fun g t7 wz => ∃ p : Nat, k ≤ p ∧ p ≤ n ∧ n - p ≤ g ∧ t7 = .int .i64 (p : Nat) ∧ (∀ r, k ≤ r → r < p → V r k = 0) ∧ Up wA wz)
      case atStart => exact ⟨k, Nat.le_refl _, hk, by omega, rfl, fun r h1 h2 => by omega, Up.refl _⟩
      case round =>
        obtain ⟨p, hkp, hp, hpg, rfl, hz, hu⟩ := hrel
        have HZ := hid hz
        have HU := hid hu
        have hDIz := HDI.out.up hu
        clear hz hu
        by_cases hpn : p < n
        · obtain ⟨gB, cB, CB, hvB, -, -, hBB, hEB⟩ := hDIz.m.open (by omega)
          injection hvB with x1 _ x3
          injection x1 with x1
          injection x1 with x1
          subst x1 x3
          obtain ⟨cp, hCp⟩ := hEB p hpn
          have hcx := hBB.cell p hCp
          obtain ⟨Cp, bp', ap, np, dp, hBp, -, h1, h2, hbig⟩ := hDIz.m.entry hpn hlt
          have HRp := hid (fun w' (hB : Blk w' (G p) 46 Cp) => bigAt_range hB h1 h2)
          have HSn := hid (fun w v (h : Big w v (V p k)) => rsign_big h)
          have e2 : IntKind.i64.wrap ((p : Int) + 1) = (p : Int) + 1 := IntWalk.i64_in _ (by omega)
          have HDz := hid hDIz
          clear hCp h1 h2 hEB hBB hDIz
          by_cases h0 : V p k = 0
          · have HZ2 := hid (fun r (h1 : k ≤ r) (h2 : r < p + 1) => show V r k = 0 from by
              by_cases e : r = p
              · rw [e]; exact h0
              · exact HZ.out r h1 (by omega))
            have dz : (sgn (V p k) == 0) = true := by rw [h0]; rfl
            obtain ⟨y, hy⟩ : ∃ y, V p k = y := ⟨_, rfl⟩
            rw [hy] at hbig HSn dz
            clear hy h0
            go_wp2_with (first
              | ((with_reducible apply ldB2_P); exact rfl; exact rfl; exact HRp.out _ hBp)
              | (go_at_call 52; (with_reducible refine (HSn.out _ _ hbig).mono ?_); rintro r w7 ⟨rfl, hu7⟩))
            go_roundg (n - (p + 1))
            case measure => omega
            case rel => exact ⟨p + 1, by omega, hpn, Nat.le_refl _, rfl, HZ2.out, HU.out.trans hu7⟩
          · have hp0 : M (p - k) 0 ≠ 0 := by have h := HL.out p k hkp hpn (Nat.le_refl _) hlt; rw [Nat.sub_self] at h; rw [← h]; exact h0
            have dz : (sgn (V p k) == 0) = false := by unfold sgn; split <;> (try split) <;> first | rfl | (exfalso; omega)
            have dpn : ((p : Int) == (n : Int)) = false := by simp; omega
            obtain ⟨y, hy⟩ : ∃ y, V p k = y := ⟨_, rfl⟩
            rw [hy] at hbig HSn dz
            have HP0 := hid hp0
            clear hy h0 hp0
            go_upto_if 45 with (first
              | ((with_reducible apply ldB2_P); exact rfl; exact rfl; exact HRp.out _ hBp)
              | (go_at_call 52; (with_reducible refine (HSn.out _ _ hbig).mono ?_); rintro r w7 ⟨rfl, hu7⟩))
            have hD7 := HDz.out.up hu7
            have HU7 := hid (HU.out.trans hu7)
            clear hu7 hcx hbig hBp HRp HSn dz dpn HDz HZ
            go_cut [7] (fun _ wc => DR2 w b1 bR bG (bG + 1) n (.slice (some ⟨gA, 0, none⟩) n cA) D k wc)
            case first =>
              by_cases hpk : p = k
              · subst hpk
                have d : ((p : Int) != (p : Int)) = false := by simp
                go_wp2_with fail
                go_meet
                exact ⟨_, _, _, _, _, _, _, _, _, _, _, _, _, hD7, HL.out, HSt.out, HFu.out, HSg.out, by have h := HP0.out; rwa [Nat.sub_self] at h⟩
              · have d : ((p : Int) != (k : Int)) = true := by simp; omega
                have hLS := HL.out.swap hlt hkp hpn hpk
                have hFS : Full q (n - k) (fun i j => M (swp (p - k) i) j) (-σ * D) := by
                  have h := HFu.out.swap (k := p - k) (by omega) (by omega) (by omega)
                  rwa [Int.neg_mul]
                have hGS : St q k (fun i j => M (swp (p - k) i) j) := ⟨HSt.out.1.swap _, HSt.out.2⟩
                have HNg := hid (fun w v (h : Big w v σ) => rneg_big h)
                have HS := hid (show Left n k (fun i j => M (swp (p - k) i) j) (fun r => V (exch p k r)) ∧ Full q (n - k) (fun i j => M (swp (p - k) i) j) (-σ * D) ∧ St q k (fun i j => M (swp (p - k) i) j) ∧ (-σ = 1 ∨ -σ = -1) from ⟨hLS, hFS, hGS, by have := HSg.out; omega⟩)
                obtain ⟨C, hDP, hx1, hx2, hx3, hx4, hx5⟩ := hD7.parts (by omega)
                have HX := hid (And.intro hx1 (And.intro hx2 (And.intro hx3 (And.intro hx4 hx5))))
                obtain ⟨ck, hCk⟩ := hx4 k hlt
                obtain ⟨ci, hCp⟩ := hx4 p hpn
                have hkk := hDP.a.cell k hCk
                have hpp := hDP.a.cell p hCp
                have HCp := hid hCp
                have HCk := hid hCk
                have HDP := hid hDP
                have hUw := hD7.u
                clear hLS hFS hGS hD7 hDP hx1 hx2 hx3 hx4 hx5 hCk hCp
                go_upto_region 12 with fail
                refine opU (S := (fun wq => wq.cell? ⟨gA, k, none⟩ = some (.slice (some ⟨G k, 0, none⟩) n ck) ∧ wq.cell? ⟨gA, p, none⟩ = some (.slice (some ⟨G p, 0, none⟩) n ci) ∧ Up w7 wq ∧ Below w.heap.size w wq)) (req := (fun j => j != 13 && j != 15)) (fun _ _ h hu => ⟨hu.cell (h.1), hu.cell (h.2.1), (h.2.2.1).trans hu, below_up (h.2.2.2) hu⟩) ⟨(by first | assumption | (apply Blk.cell; exact gBlk; exact rfl)), (by first | assumption | (apply Blk.cell; exact gBlk; exact rfl)), (by first | exact Up.refl _ | assumption), gUp⟩ (fun wS hSS hSu => ?_)
                have ⟨hS1, hS2, hS3, hSB⟩ := hSS
                refine tkP 0 (some 46) hSu ?_
                refine tkP 1 (some 47) hSu ?_
                refine tkP 2 (some 48) hSu ?_
                refine tkP 3 (some 49) hSu ?_
                refine tkP 4 (some 50) hSu ?_
                refine tkP 5 (some 51) hSu ?_
                refine tkP 6 (some 52) hSu ?_
                refine tkT 7 (some 53) rfl hSu hSS ?_ (hy := fun w' hSw => by (have hc9 := hSw.1; go_simp; exact rfl))
                refine tkP 8 (some 54) hSu ?_
                refine tkP 9 (some 55) hSu ?_
                refine tkP 10 (some 56) hSu ?_
                refine tkT 11 (some 57) rfl hSu hSS ?_ (hy := fun w' hSw => by (have hc9 := hSw.2.1; go_simp; exact rfl))
                refine tkP 12 (some 58) hSu ?_
                refine wpAnyU_one (i := 13) rfl (by kernel_rfl) (by rfl) fun wX hwX => ?_
                have gp := HDP.out.up (hS3.trans hwX)
                have hcW := gp.a.cell p HCp.out
                have hfW := gp.a.frozen p
                go_simp
                clear hcW hfW
                replace gp := gp.setC p (.slice (some ⟨G k, 0, none⟩) n ck)
                refine tkP 14 (some 59) hSu ?_
                refine wpAnyU_one (i := 15) rfl (by kernel_rfl) (by rfl) fun wY hwY => ?_
                replace gp := gp.up hwY
                obtain ⟨vk, hvk⟩ : ∃ vk, (C.setIfInBounds p (.slice (some ⟨G k, 0, none⟩) n ck))[k]? = some vk := by
                  rw [Array.getElem?_setIfInBounds, if_neg hpk]; exact ⟨_, HCk.out⟩
                have hcW := gp.a.cell k hvk
                have hfW := gp.a.frozen k
                go_simp
                clear hcW hfW hvk
                replace gp := gp.setC k (.slice (some ⟨G p, 0, none⟩) n ci)
                refine wpAnyU_done (by kernel_rfl) (fun wF huE => ?_) _
                replace gp := gp.up huE
                have hDS := gp.swap hpn hlt HX.out.1 HX.out.2.1 HX.out.2.2.1 HX.out.2.2.2.1 HX.out.2.2.2.2
                clear gp hS1 hS2 hS3 hSB hSS huE hwX hwY hkk hpp HDP HX
                go_wp2_with (first
                  | ((with_reducible apply ldB_P); exact rfl; exact rfl; exact hDS.s; exact rfl)
                  | (go_at_call 53; (with_reducible refine (HNg.out _ _ hDS.z).mono ?_); rintro r w8 ⟨hu8, v8, rfl, hB8⟩; obtain ⟨b8, a8, n8, c8, rfl⟩ := hB8.shape)
                  | ((with_reducible apply stB_P); exact rfl; exact rfl; exact (hDS.up hu8).s; exact rfl; exact rfl; exact one2 _ _ _ _
                     refine wpL_folded (fun wd => DI w b1 bR bG (bG + 1) n (.slice (some ⟨gA, 0, none⟩) n cA) (fun r => G (exch p k r)) b8 a8 n8 c8 (-σ) b0 p0 n0 c0 q (fun r => V (exch p k r)) wd) ((hDS.up hu8).sign hB8) ?_
                     rintro w9 h9))
                go_meet
                exact ⟨_, _, _, _, _, _, _, _, _, _, _, _, _, h9, HS.out.1, HS.out.2.2.1, HS.out.2.1, HS.out.2.2.2, by have h := HP0.out; show M (swp (p - k) 0) 0 ≠ 0; unfold swp; rw [if_pos rfl]; exact h⟩
            case rest =>
              obtain ⟨G, gb, gp, gn, gc, σ, b0, p0, n0, c0, q, M, V, hDI, hL, hSt, hFu, hσ, hm0⟩ := hcut
              have HL := hid hL
              have HSt := hid hSt
              have HFu := hid hFu
              have HSg := hid hσ
              have HM0 := hid hm0
              have HQ := hid (show q ≠ 0 ∧ q.natAbs < bp 5 ∧ ∀ i j, (M i j).natAbs < bp 5 from ⟨hSt.2.1, hSt.2.2, hSt.entry (by omega)⟩)
              clear hL hSt hFu hσ hm0 hD7
              go_wp2_with fail
              go_loopg [8] n (fun g ti wr => ∃ (i : Nat) (V1 : Nat → Nat → Int), k + 1 ≤ i ∧ i ≤ n ∧ n - i ≤ g ∧ ti = .int .i64 (i : Nat) ∧ At1 n k q M i (k + 1) V1 ∧ DI w b1 bR bG (bG + 1) n (.slice (some ⟨gA, 0, none⟩) n cA) G gb gp gn gc σ b0 p0 n0 c0 q V1 wr)
              case atStart => exact ⟨k + 1, V, Nat.le_refl _, hlt, by omega, rfl, At1.start HL.out, hDI⟩
              case round =>
                clear hDI
                obtain ⟨i, V1, hki, hi, hig, rfl, hAt, hMI⟩ := hrel
                have HAt := hid hAt
                have HMI := hid hMI
                clear hAt hMI
                by_cases hil : i < n
                · have e2 : IntKind.i64.wrap ((i : Int) + 1) = (i : Int) + 1 := IntWalk.i64_in _ (by omega)
                  go_wp2_with fail
                  obtain ⟨wO, hwO⟩ : ∃ y, wr = y := ⟨_, rfl⟩
                  rw [hwO] at HMI ⊢
                  clear hwO
                  go_loopg [9] n (fun g tj wr => ∃ (j : Nat) (V1 : Nat → Nat → Int), k + 1 ≤ j ∧ j ≤ n ∧ n - j ≤ g ∧ tj = .int .i64 (j : Nat) ∧ At1 n k q M i j V1 ∧ DI w b1 bR bG (bG + 1) n (.slice (some ⟨gA, 0, none⟩) n cA) G gb gp gn gc σ b0 p0 n0 c0 q V1 wr)
                  case atStart => exact ⟨k + 1, V1, Nat.le_refl _, hlt, by omega, rfl, HAt.out, HMI.out⟩
                  case round =>
                    clear HAt HMI
                    obtain ⟨j, V2, hkj, hj, hjg, rfl, hAt, hMI⟩ := hrel
                    by_cases hjl : j < n
                    · have e3 : IntKind.i64.wrap ((j : Int) + 1) = (j : Int) + 1 := IntWalk.i64_in _ (by omega)
                      obtain ⟨gB, cB, CB, hvB, -, -, hBB, hEB⟩ := hMI.m.open (by omega)
                      injection hvB with x1 _ x3
                      injection x1 with x1
                      injection x1 with x1
                      subst x1 x3
                      obtain ⟨ci, hCi⟩ := hEB i hil
                      have HCi := hid (fun w' (hu : Up wr w') => (hBB.up hu).cell i hCi)
                      obtain ⟨Ci, bi, ai, ni, di, hBi, hsz, -, -, -⟩ := hMI.m.entry hil hjl
                      have hst := hAt.step hki hil hkj hjl
                      have f1 := HQ.out.2.2 (k - k) (k - k)
                      have f2 := HQ.out.2.2 (i - k) (j - k)
                      have f3 := HQ.out.2.2 (i - k) (k - k)
                      have f4 := HQ.out.2.2 (k - k) (j - k)
                      rw [← hAt.old (r := k) (c := k) (by omega) (by omega) (by omega) (by omega) (by omega)] at f1
                      rw [← hAt.old (r := i) (c := j) (by omega) (by omega) (by omega) (by omega) (by omega)] at f2
                      rw [← hAt.old (r := i) (c := k) (by omega) (by omega) (by omega) (by omega) (by omega)] at f3
                      rw [← hAt.old (r := k) (c := j) (by omega) (by omega) (by omega) (by omega) (by omega)] at f4
                      have HST := hid (fun w' (hu : Up wr w') => hst ▸ rstep_any (hMI.m.up hu) (hMI.q.up hu) hlt hil hlt hjl hn (by omega) (by decide) HQ.out.1 HQ.out.2.1 f1 f2 f3 f4)
                      have HSet := hid (hAt.set hki hkj)
                      obtain ⟨z, hz⟩ : ∃ z, nxt q M (i - (k + 1)) (j - (k + 1)) = z := ⟨_, rfl⟩
                      rw [hz] at HST HSet
                      have hUw := hMI.u
                      have HMI := hid hMI
                      clear hz hst f1 f2 f3 f4 hAt hMI hEB hCi hBB
                      go_wp2_with fail
                      refine wp_region_sp (n := 100) 12 [78, 79, 80, 81, 82, 83, 84, 85, 86, 87, 88, 89] [SP.is (.slice (some ⟨gA, 0, none⟩) n cA), SP.is (.int .i64 (i : Nat)), SP.is (.pointer (some ⟨gA, i, none⟩)), SP.is (.slice (some ⟨G i, 0, none⟩) n ci), SP.is (.int .i64 (j : Nat)), SP.is (.slice (some ⟨gA, 0, none⟩) n cA), SP.is (.int .i64 (k : Nat)), SP.is (.int .i64 (i : Nat)), SP.is (.int .i64 (j : Nat)), SP.is (.agg #[.bool b0, .slice p0 n0 c0]), SP.of (fun v w1 => Big w1 v z) (fun _ _ _ h hu => h.up hu), SP.is (.pointer (some ⟨G i, j * 2, none⟩)), SP.any] (fun wq => Up wr wq) (by kernel_rfl) (by rfl) (by kernel_rfl) (by kernel_rfl) (fun _ _ h hu => (h).trans hu) (by first | exact Up.refl _ | assumption) (fun ev w9 hS9 i o hne hi hev => ?_) (fun gR wE hq hSE huE => ?_)
                      · have hS1 := hS9
                        have hcC := hev.const
                        have hcF := hev.func
                        have hcG := hev.global
                        rcases i with _ | _ | _ | _ | _ | _ | _ | _ | _ | _ | _ | _ | _ | i
                        · obtain rfl := Option.some.inj (show some _ = some o from hi)
                          have e3 := hev.other 3 (by kernel_rfl)
                          simp [Act.eval] at e3
                          exact leavesR_value (u := .slice (some ⟨gA, 0, none⟩) n cA) (by first | (go_simp; done) | (go_simp; exact rfl)) rfl
                        · obtain rfl := Option.some.inj (show some _ = some o from hi)
                          have e8 := hev.other 8 (by kernel_rfl)
                          simp [Act.eval] at e8
                          exact leavesR_value (u := .int .i64 (i : Nat)) (by first | (go_simp; done) | (go_simp; exact rfl)) rfl
                        · obtain rfl := Option.some.inj (show some _ = some o from hi)
                          have e78 : ev (.tmp 78) = (.slice (some ⟨gA, 0, none⟩) n cA) := hev.dep 0 78 (by kernel_rfl)
                          have e79 : ev (.tmp 79) = (.int .i64 (i : Nat)) := hev.dep 1 79 (by kernel_rfl)
                          exact leavesR_value (u := .pointer (some ⟨gA, i, none⟩)) (by first | (go_simp; done) | (go_simp; exact rfl)) rfl
                        · obtain rfl := Option.some.inj (show some _ = some o from hi)
                          have e80 : ev (.tmp 80) = (.pointer (some ⟨gA, i, none⟩)) := hev.dep 2 80 (by kernel_rfl)
                          have hcx := HCi.out w9 hS1; exact leavesR_value (u := .slice (some ⟨G i, 0, none⟩) n ci) (by go_simp) rfl
                        · obtain rfl := Option.some.inj (show some _ = some o from hi)
                          have e9 := hev.other 9 (by kernel_rfl)
                          simp [Act.eval] at e9
                          exact leavesR_value (u := .int .i64 (j : Nat)) (by first | (go_simp; done) | (go_simp; exact rfl)) rfl
                        · obtain rfl := Option.some.inj (show some _ = some o from hi)
                          have e3 := hev.other 3 (by kernel_rfl)
                          simp [Act.eval] at e3
                          exact leavesR_value (u := .slice (some ⟨gA, 0, none⟩) n cA) (by first | (go_simp; done) | (go_simp; exact rfl)) rfl
                        · obtain rfl := Option.some.inj (show some _ = some o from hi)
                          have e6 := hev.other 6 (by kernel_rfl)
                          simp [Act.eval] at e6
                          exact leavesR_value (u := .int .i64 (k : Nat)) (by first | (go_simp; done) | (go_simp; exact rfl)) rfl
                        · obtain rfl := Option.some.inj (show some _ = some o from hi)
                          have e8 := hev.other 8 (by kernel_rfl)
                          simp [Act.eval] at e8
                          exact leavesR_value (u := .int .i64 (i : Nat)) (by first | (go_simp; done) | (go_simp; exact rfl)) rfl
                        · obtain rfl := Option.some.inj (show some _ = some o from hi)
                          have e9 := hev.other 9 (by kernel_rfl)
                          simp [Act.eval] at e9
                          exact leavesR_value (u := .int .i64 (j : Nat)) (by first | (go_simp; done) | (go_simp; exact rfl)) rfl
                        · obtain rfl := Option.some.inj (show some _ = some o from hi)
                          have e5 := hev.other 5 (by kernel_rfl)
                          simp [Act.eval] at e5
                          exact leavesR_value (run_ldBR rfl (by go_simp) (HMI.out.p.up hS1) rfl) rfl
                        · obtain rfl := Option.some.inj (show some _ = some o from hi)
                          have e83 : ev (.tmp 83) = (.slice (some ⟨gA, 0, none⟩) n cA) := hev.dep 5 83 (by kernel_rfl)
                          have e84 : ev (.tmp 84) = (.int .i64 (k : Nat)) := hev.dep 6 84 (by kernel_rfl)
                          have e85 : ev (.tmp 85) = (.int .i64 (i : Nat)) := hev.dep 7 85 (by kernel_rfl)
                          have e86 : ev (.tmp 86) = (.int .i64 (j : Nat)) := hev.dep 8 86 (by kernel_rfl)
                          have e87 : ev (.tmp 87) = (.agg #[.bool b0, .slice p0 n0 c0]) := hev.dep 9 87 (by kernel_rfl)
                          refine leavesR_call ?_ (HST.out _ hS1)
                          go_simp
                        · obtain rfl := Option.some.inj (show some _ = some o from hi)
                          have e81 : ev (.tmp 81) = (.slice (some ⟨G i, 0, none⟩) n ci) := hev.dep 3 81 (by kernel_rfl)
                          have e82 : ev (.tmp 82) = (.int .i64 (j : Nat)) := hev.dep 4 82 (by kernel_rfl)
                          exact leavesR_value (u := .pointer (some ⟨G i, j * 2, none⟩)) (by first | (go_simp; done) | (go_simp; exact rfl)) rfl
                        · exact absurd rfl hne
                        · exact absurd (show i + 13 < 13 from (Array.getElem?_eq_some_iff.1 hi).1) (by omega)
                      have hS1 := hSE
                      have q0 : gR 78 = (.slice (some ⟨gA, 0, none⟩) n cA) := hq 0 78 (by decide) (by kernel_rfl)
                      have q1 : gR 79 = (.int .i64 (i : Nat)) := hq 1 79 (by decide) (by kernel_rfl)
                      have q2 : gR 80 = (.pointer (some ⟨gA, i, none⟩)) := hq 2 80 (by decide) (by kernel_rfl)
                      have q3 : gR 81 = (.slice (some ⟨G i, 0, none⟩) n ci) := hq 3 81 (by decide) (by kernel_rfl)
                      have q4 : gR 82 = (.int .i64 (j : Nat)) := hq 4 82 (by decide) (by kernel_rfl)
                      have q5 : gR 83 = (.slice (some ⟨gA, 0, none⟩) n cA) := hq 5 83 (by decide) (by kernel_rfl)
                      have q6 : gR 84 = (.int .i64 (k : Nat)) := hq 6 84 (by decide) (by kernel_rfl)
                      have q7 : gR 85 = (.int .i64 (i : Nat)) := hq 7 85 (by decide) (by kernel_rfl)
                      have q8 : gR 86 = (.int .i64 (j : Nat)) := hq 8 86 (by decide) (by kernel_rfl)
                      have q9 : gR 87 = (.agg #[.bool b0, .slice p0 n0 c0]) := hq 9 87 (by decide) (by kernel_rfl)
                      have q10 : (fun v w1 => Big w1 v z) (gR 88) wE := hq 10 88 (by decide) (by kernel_rfl)
                      dsimp only at q10
                      obtain ⟨v88, hv88⟩ : ∃ v, gR 88 = v := ⟨_, rfl⟩
                      rw [hv88] at q10
                      have q11 : gR 89 = (.pointer (some ⟨G i, j * 2, none⟩)) := hq 11 89 (by decide) (by kernel_rfl)
                      refine ⟨fun h => absurd h (by decide), fun o ho => ?_⟩
                      obtain rfl := Option.some.inj (show some _ = some o from ho)
                      simp only [putL, List.map_cons, List.map_nil, q0, q1, q2, q3, q4, q5, q6, q7, q8, q9, hv88, q11, Act.put, pu1, pu2, pu3]
                      clear hq hSE q0 q1 q2 q3 q4 q5 q6 q7 q8 q9 q11
                      obtain ⟨yb, ya, yn, yc, rfl⟩ := q10.shape
                      have hset := DI.set (HMI.out.up hS1) hil hjl (hBi.up hS1) q10
                      refine wp_stB2 _ _ rfl rfl rfl (hBi.up hS1) (by omega) ?_
                      obtain ⟨wK, hwK⟩ : ∃ y, wE.setRow (G i) (splB Ci (j * 2) [.bool yb, .slice ya yn yc]) = y := ⟨_, rfl⟩
                      rw [hwK] at hset ⊢
                      clear hwK hS1 huE q10 HST hBi HCi HMI hUw
                      go_wp2_with fail
                      go_roundg (n - (j + 1))
                      case measure => omega
                      case rel => exact ⟨j + 1, _, by omega, hjl, Nat.le_refl _, rfl, HSet.out, hset⟩
                    · obtain rfl : j = n := by omega
                      have HR2 := hid hAt.row
                      have HMI := hid hMI
                      clear hAt hMI
                      go_wp2_with fail
                      go_roundg (j - (i + 1))
                      case measure => omega
                      case rel => exact ⟨i + 1, V2, by omega, hil, Nat.le_refl _, rfl, HR2.out, HMI.out⟩
                · obtain rfl : i = n := by omega
                  have HLn := hid (show Left i (k + 1) (nxt q M) V1 from HAt.out.all)
                  have h00 : V1 k k = M 0 0 := by rw [HAt.out.old (r := k) (c := k) (by omega) (by omega) (by omega) (by omega) (by omega), Nat.sub_self]
                  obtain ⟨gB, cB, CB, hvB, -, -, hBB, hEB⟩ := HMI.out.m.open (by omega)
                  injection hvB with x1 _ x3
                  injection x1 with x1
                  injection x1 with x1
                  subst x1 x3
                  obtain ⟨ck8, hCk8⟩ := hEB k hlt
                  have hcx := hBB.cell k hCk8
                  obtain ⟨Ck8, bk8, ak8, nk8, dk8, hBk8, -, h1, h2, hbig8⟩ := HMI.out.m.entry hlt hlt
                  have HRk8 := hid (fun w' (hB : Blk w' (G k) 46 Ck8) => bigAt_range hB h1 h2)
                  rw [h00] at hbig8
                  have HE := hid (show St (M 0 0) (k + 1) (nxt q M) ∧ Full (M 0 0) (i - (k + 1)) (nxt q M) (σ * D) from ⟨HSt.out.next (by omega) HM0.out, by
                    have h := HFu.out
                    rw [hs] at h
                    rw [show i - (k + 1) = s by omega]
                    exact h.next HSt.out.1 HSt.out.2.1 HM0.out⟩)
                  obtain ⟨m0, hm0⟩ : ∃ y, M 0 0 = y := ⟨_, rfl⟩
                  rw [hm0] at hbig8 HE
                  clear h00 h1 h2 hEB hCk8 hBB HAt hm0
                  go_wp2_with (first
                    | ((with_reducible apply ldB2_P); exact rfl; exact rfl; exact HRk8.out _ hBk8)
                    | ((with_reducible apply stB_P); exact rfl; exact rfl; exact HMI.out.p; exact rfl; exact rfl; exact one2 _ _ _ _
                       refine wpL_folded (fun wd => DI w b1 bR bG (bG + 1) i (.slice (some ⟨gA, 0, none⟩) i cA) G gb gp gn gc σ bk8 ak8 nk8 dk8 m0 V1 wd) (HMI.out.prev hbig8) ?_
                       rintro w9 h9))
                  go_roundg (i - (k + 1))
                  case measure => omega
                  case rel => exact ⟨k + 1, hlt, Nat.le_refl _, rfl, G, gb, gp, gn, gc, σ, bk8, ak8, nk8, dk8, m0, nxt q M, V1, h9, HLn.out, HE.out.1, HE.out.2, HSg.out⟩
        · obtain rfl : p = n := by omega
          have hD0 : D = 0 := by
            have hf := HFu.out
            rw [hs] at hf
            have h0 := Full.nil hf HSt.out.2.1 (fun i hi => by
              have h1 := HZ.out (k + i) (by omega) (by omega)
              rw [HL.out (k + i) k (by omega) (by omega) (Nat.le_refl _) hlt, show k + i - k = i by omega, Nat.sub_self] at h1
              exact h1)
            rcases HSg.out with h | h <;> rw [h] at h0 <;> omega
          subst hD0
          clear HFu HSt HSg HL HZ HU
          go_wp2_with (first
            | ((with_reducible apply stB_P); exact rfl; exact rfl; exact hDIz.r; exact rfl; exact rfl; exact one2 _ _ _ _))
          exact bodyPost_ret (resB rfl rfl (hDIz.r.setRow _) rfl) rfl ⟨below_setRow hDIz.u hDIz.o.2.2.1 _, _, rfl, big_zero _⟩
    · obtain rfl : k = n := by omega
      have hDq : σ * q = D := by
        have hf := HFu.out
        rw [Nat.sub_self] at hf
        have h0 := hf.zero
        rw [← h0]
        rcases HSg.out with h | h <;> rw [h] <;> omega
      have hσb : σ.natAbs < bp 5 := by
        have h1 : (1 : Int).natAbs < bp 5 := HSt1.out
        rcases HSg.out with h | h <;> rw [h] <;> exact h1
      have HMu := hid (fun w va vb (ha : Big w va σ) (hb : Big w vb q) => mul_big ha hb (nl_bp (k := 5) (by omega) hσb) (nl_bp (k := 5) (by omega) HSt.out.2.2))
      rw [hDq] at HMu
      clear hDq hσb HFu HSt HSg HL HSt1
      go_wp2_with (first
        | ((with_reducible apply ldB_P); exact rfl; exact rfl; (first | exact HDI.out.s | exact HDI.out.p); exact rfl)
        | (go_at_call 23; (with_reducible refine (HMu.out _ _ _ HDI.out.z HDI.out.q).mono ?_); rintro r w7 ⟨hu7, v7, rfl, hB7⟩; obtain ⟨b7, a7, n7, c7, rfl⟩ := hB7.shape)
        | ((with_reducible apply stB_P); exact rfl; exact rfl; exact HDI.out.r.up hu7; exact rfl; exact rfl; exact one2 _ _ _ _))
      have hBR := HDI.out.r.up hu7
      exact bodyPost_ret (resB rfl rfl (hBR.setRow _) rfl) rfl ⟨below_setRow (HDI.out.u.trans hu7) HDI.out.o.2.2.1 _, _, rfl, hB7.setRow hBR⟩
def blk (p : Nat) (A B : Nat → Nat → Int) : Nat → Nat → Int := fun i j => if i < p then (if j < p then A i j else 0) else (if j < p then 0 else B (i - p) (j - p))
theorem sumN_cut {n : Nat} {f : Nat → Int} : ∀ q, (∀ i, n ≤ i → f i = 0) → sumN (n + q) f = sumN n f := by
  intro q h
  induction q with
  | zero => rfl
  | succ q ih => show sumN (n + q) f + f (n + q) = _; rw [ih, h (n + q) (by omega)]; omega
theorem sumN_parts (p : Nat) (f : Nat → Int) : ∀ q, sumN (p + q) f = sumN p f + sumN q fun i => f (p + i) := by
  intro q
  induction q with
  | zero => show sumN p f = sumN p f + 0; omega
  | succ q ih =>
    show sumN (p + q) f + f (p + q) = _
    rw [ih]
    show _ = sumN p f + (sumN q (fun i => f (p + i)) + f (p + q))
    omega
theorem det_blk (q : Nat) (B : Nat → Nat → Int) : ∀ (p : Nat) (A : Nat → Nat → Int), det (p + q) (blk p A B) = det p A * det q B := by
  intro p
  induction p with
  | zero =>
    intro A
    show det (0 + q) (blk 0 A B) = 1 * det q B
    rw [Nat.zero_add, Int.one_mul]
    refine det_congr fun i j _ _ => ?_
    unfold blk
    rw [if_neg (Nat.not_lt_zero i), if_neg (Nat.not_lt_zero j)]
    rfl
  | succ p ih =>
    intro A
    rw [show p + 1 + q = (p + q) + 1 by omega]
    show sumN (p + q + 1) (fun i => sg i * blk (p + 1) A B i 0 * det (p + q) fun r c => blk (p + 1) A B (sk i r) (c + 1)) = sumN (p + 1) (fun i => sg i * A i 0 * det p fun r c => A (sk i r) (c + 1)) * det q B
    rw [show p + q + 1 = (p + 1) + q by omega, sumN_cut q fun i hi => by
      have : blk (p + 1) A B i 0 = 0 := by unfold blk; rw [if_neg (by omega), if_pos (by omega)]
      rw [this, Int.mul_zero, Int.zero_mul], Int.mul_comm, sumN_mul]
    refine sumN_congr fun i hi => ?_
    have e1 : blk (p + 1) A B i 0 = A i 0 := by unfold blk; rw [if_pos hi, if_pos (by omega)]
    have e2 : (det (p + q) fun r c => blk (p + 1) A B (sk i r) (c + 1)) = det (p + q) (blk p (fun r c => A (sk i r) (c + 1)) B) := by
      refine det_congr fun r c _ _ => ?_
      unfold blk
      by_cases hr : r < p
      · have hs : sk i r < p + 1 := by unfold sk; split <;> omega
        rw [if_pos hs, if_pos hr]
        by_cases hc : c < p
        · rw [if_pos (by omega), if_pos hc]
        · rw [if_neg (by omega), if_neg hc]
      · have hs : sk i r = r + 1 := by unfold sk; rw [if_neg (by omega)]
        rw [hs, if_neg (by omega), if_neg hr]
        by_cases hc : c < p
        · rw [if_pos (by omega), if_pos hc]
        · rw [if_neg (by omega), if_neg hc, show r + 1 - (p + 1) = r - p by omega, show c + 1 - (p + 1) = c - p by omega]
    rw [e1, e2, ih]
    grind
theorem quad_blk (p q : Nat) (A B : Nat → Nat → Int) (x : Nat → Int) : quad (p + q) (blk p A B) x = quad p A x + quad q B fun i => x (p + i) := by
  unfold quad
  rw [sumN_parts]
  have e1 : (sumN p fun i => sumN (p + q) fun j => blk p A B i j * x i * x j) = sumN p fun i => sumN p fun j => A i j * x i * x j := sumN_congr fun i hi => by
    rw [sumN_parts, sumN_zero (n := q) fun j hj => by
      have : blk p A B i (p + j) = 0 := by unfold blk; rw [if_pos hi, if_neg (by omega)]
      rw [this, Int.zero_mul, Int.zero_mul], Int.add_zero]
    exact sumN_congr fun j hj => by
      have : blk p A B i j = A i j := by unfold blk; rw [if_pos hi, if_pos hj]
      rw [this]
  have e2 : (sumN q fun i => sumN (p + q) fun j => blk p A B (p + i) j * x (p + i) * x j) = sumN q fun i => sumN q fun j => B i j * x (p + i) * x (p + j) := sumN_congr fun i hi => by
    rw [sumN_parts, sumN_zero (n := p) fun j hj => by
      have : blk p A B (p + i) j = 0 := by unfold blk; rw [if_neg (by omega), if_pos hj]
      rw [this, Int.zero_mul, Int.zero_mul], Int.zero_add]
    exact sumN_congr fun j hj => by
      have : blk p A B (p + i) (p + j) = B i j := by unfold blk; rw [if_neg (by omega), if_neg (by omega), show p + i - p = i by omega, show p + j - p = j by omega]
      rw [this]
  rw [e1, e2]
theorem quad_zero {n : Nat} {M : Nat → Nat → Int} {x : Nat → Int} (h : ∀ i, i < n → x i = 0) : quad n M x = 0 :=
  sumN_zero fun i hi => sumN_zero fun j _ => by rw [h i hi, Int.mul_zero, Int.zero_mul]
theorem PD.nonneg {n : Nat} {M : Nat → Nat → Int} (h : PD n M) (x : Nat → Int) : 0 ≤ quad n M x := by
  by_cases h0 : ∃ i, i < n ∧ x i ≠ 0
  · exact Int.le_of_lt (h x h0)
  · rw [quad_zero fun i hi => Classical.byContradiction fun hne => h0 ⟨i, hi, hne⟩]
    exact Int.le_refl _
theorem pd_blk (p q : Nat) (A B : Nat → Nat → Int) : PD (p + q) (blk p A B) ↔ PD p A ∧ PD q B := by
  constructor
  · intro h
    refine ⟨fun x ⟨i, hi, hx⟩ => ?_, fun x ⟨i, hi, hx⟩ => ?_⟩
    · have h1 := h (fun i => if i < p then x i else 0) ⟨i, by omega, by rw [if_pos hi]; exact hx⟩
      rw [quad_blk, quad_zero (n := q) fun j _ => by rw [if_neg (by omega)], Int.add_zero, quad_congr (K := A) (y := x) (fun _ _ _ _ => rfl) fun j hj => by rw [if_pos hj]] at h1
      exact h1
    · have h1 := h (fun i => if i < p then 0 else x (i - p)) ⟨p + i, by omega, by rw [if_neg (by omega), show p + i - p = i by omega]; exact hx⟩
      rw [quad_blk, quad_zero (n := p) fun j hj => by rw [if_pos hj], Int.zero_add, quad_congr (K := B) (y := x) (fun _ _ _ _ => rfl) fun j _ => by rw [if_neg (by omega), show p + j - p = j by omega]] at h1
      exact h1
  · intro ⟨hA, hB⟩ x ⟨i, hi, hx⟩
    rw [quad_blk]
    by_cases hp : i < p
    · have h1 := hA x ⟨i, hp, hx⟩
      have h2 := hB.nonneg fun i => x (p + i)
      omega
    · have h1 := hA.nonneg x
      have h2 := hB (fun i => x (p + i)) ⟨i - p, by omega, by rw [show p + (i - p) = i by omega]; exact hx⟩
      omega
theorem rnewO_any (n : Int) (w : World) :
    Calls Tryz.prog 39 #[.int .i64 n] w fun r w' => ∃ z b, r = .returned (.agg #[.int .i64 (nw n), z]) ∧ Up w w' ∧ w.heap.size ≤ b ∧ OwnI w' b z (zeros (nw n)) := by
  have ⟨n0, n8⟩ := nw_in n
  have hq : min (max n 0) 8 = nw n := rfl
  have ⟨m1, m2⟩ := tri_mul n0 n8
  have ⟨t0, t1⟩ := tri_le n0 n8
  have htr := tri_def (nw n)
  obtain ⟨T2, hT2⟩ : ∃ p, nw n * (nw n + 1) = p := ⟨_, rfl⟩
  have hm : IntKind.i64.wrap (nw n * (nw n + 1)) = T2 := by rw [hT2]; rw [hT2] at m1 m2; exact IntWalk.i64_in _ (by omega)
  rw [hT2] at m1 m2 htr
  unfold zeros
  rw [htr] at t0 t1 ⊢
  clear htr hT2
  generalize nw n = N at *
  obtain ⟨W0, hW0⟩ : ∃ W0, w.alloc (.cells #[.int .i64 0, .slice none 0 0] 24) = W0 := ⟨_, rfl⟩
  have hQ : Blk W0 w.heap.size 24 #[.int .i64 0, .slice none 0 0] := by rw [← hW0]; exact Blk.new _ _ rfl
  have hU : Up w W0 := by rw [← hW0]; exact Up.alloc _ _
  go_enter Tryz.func39, Tryz.ntmps39
  go_wp2_with (first
    | ((with_reducible apply mkI); exact rfl; (focus omega); (focus omega); rintro g n c w2 hO hu2; have hQ2 := hQ.up hu2)
    | ((with_reducible apply stM_P); exact rfl; exact rfl; exact hQ2; exact rfl; exact rfl; exact two2 _ _ _ _ _))
  exact bodyPost_ret (resM rfl rfl (hQ2.setRow _) rfl) rfl ⟨_, _, rfl, below_setRow (hU.trans hu2) (Nat.le_refl _) _, hU.size, hO.setRow hQ2⟩
theorem idx_injB : (List.range 9).all (fun n => (List.range n).all fun b => (List.range (b + 1)).all fun a => (List.range n).all fun j => (List.range (j + 1)).all fun i => !((idx n i j).toNat == (idx n a b).toNat) || (i == a && j == b)) = true := by decide +kernel
theorem idx_inj {n a b i j : Nat} (hn : n ≤ 8) (hab : a ≤ b) (hb : b < n) (hij : i ≤ j) (hj : j < n) (e : (idx n i j).toNat = (idx n a b).toNat) : i = a ∧ j = b := by
  have h := List.all_eq_true.1 idx_injB n (List.mem_range.2 (by omega))
  have h := List.all_eq_true.1 h b (List.mem_range.2 hb)
  have h := List.all_eq_true.1 h a (List.mem_range.2 (by omega))
  have h := List.all_eq_true.1 h j (List.mem_range.2 hj)
  have h := List.all_eq_true.1 h i (List.mem_range.2 (by omega))
  rw [e] at h
  simpa using h
def Fl (E : Nat → Nat → Int) (c : Nat) (l : List Int) : Prop := rt c l = true ∧ ∀ i j, i ≤ j → j < c → ent c l i j = E i j
theorem Fl.congr {E K : Nat → Nat → Int} {c : Nat} {l : List Int} (h : Fl E c l) (he : ∀ i j, i ≤ j → j < c → E i j = K i j) : Fl K c l := ⟨h.1, fun i j h1 h2 => (h.2 i j h1 h2).trans (he i j h1 h2)⟩
theorem Fl.set {E : Nat → Nat → Int} {c a b : Nat} {v : Int} {l : List Int} (h : Fl E c l) (hab : a ≤ b) (hb : b < c) (hf : fit v = true) : Fl (upd2 E a b v) c (l.set (idx c a b).toNat v) := by
  obtain ⟨_, c8, _, _⟩ := rt_spec h.1
  have zs : ∀ i, i < l.length → zth (l.set (idx c a b).toNat v) i = if (idx c a b).toNat = i then v else zth l i := fun i hi => by
    rw [zth_get (by rw [List.length_set]; exact hi), List.getElem_set]
    split
    · rfl
    · rw [zth_get hi]
  refine ⟨rt_of h.1 (by rw [List.length_set]) (all_yes fun i hi => ?_), fun i j hij hj => ?_⟩
  · rw [List.length_set] at hi
    rw [zs i hi]
    split
    · exact hf
    · exact (rt_spec h.1).2.2.2 i hi
  · obtain ⟨p, hp, hpl, -⟩ := idx_nat h.1 (show rng (c : Int) i j = true from decide_eq_true (by omega))
    have h1 := h.2 i j hij hj
    unfold ent at h1 ⊢
    rw [zs _ (by rw [hp]; exact hpl)]
    unfold upd2
    by_cases hh : i = a ∧ j = b
    · obtain ⟨rfl, rfl⟩ := hh
      rw [if_pos rfl, if_pos ⟨rfl, rfl⟩]
    · rw [if_neg fun e => hh (idx_inj (by omega) hab hb hij hj e.symm), if_neg hh]
      exact h1
theorem Fl.start {c : Nat} (h8 : c ≤ 8) : Fl (fun _ _ => 0) c (zeros c) := ⟨rt_zeros (by omega) (by omega), fun i j _ _ => by unfold ent; rw [zth_zeros]⟩
def gE (n : Nat) (L : List Int) (a b : Nat) : Nat → Nat → Int := fun i j => if j < n ∧ (i < a ∨ (i = a ∧ j < b)) then ent n L i j else 0
def bE (n : Nat) (L : List Int) (k : Nat) (Q : List Int) (a b : Nat) : Nat → Nat → Int := fun i j => if j < n then ent n L i j else if n ≤ i ∧ (i < n + a ∨ (i = n + a ∧ j < n + b)) then ent k Q ((i - n : Nat) : Int) ((j - n : Nat) : Int) else 0
theorem gE_start {n c : Nat} (L : List Int) (h8 : c ≤ 8) : Fl (gE n L 0 0) c (zeros c) := (Fl.start h8).congr fun i j _ _ => by unfold gE; rw [if_neg (by omega)]
theorem gE_row {n c a : Nat} {L l : List Int} (h : Fl (gE n L a n) c l) : Fl (gE n L (a + 1) (a + 1)) c l := h.congr fun i j hij hj => by
  unfold gE
  by_cases e : j < n ∧ (i < a ∨ (i = a ∧ j < n))
  · rw [if_pos e, if_pos (by omega)]
  · rw [if_neg e, if_neg (by omega)]
theorem gE_next {n c a b : Nat} {L l : List Int} (h : Fl (gE n L a b) c l) (hab : a ≤ b) (hb : b < n) (hc : n ≤ c) (hf : fit (ent n L a b) = true) : Fl (gE n L a (b + 1)) c (l.set (idx c a b).toNat (ent n L a b)) :=
  (h.set hab (by omega) hf).congr fun i j hij hj => by
    unfold upd2 gE
    by_cases e : i = a ∧ j = b
    · rw [if_pos e, if_pos (by omega), e.1, e.2]
    · rw [if_neg e]
      by_cases e2 : j < n ∧ (i < a ∨ (i = a ∧ j < b))
      · rw [if_pos e2, if_pos (by omega)]
      · rw [if_neg e2, if_neg (by omega)]
theorem gE_all {n c k : Nat} {L l : List Int} (h : Fl (gE n L n n) c l) (Q : List Int) : Fl (bE n L k Q 0 0) c l := h.congr fun i j hij hj => by
  unfold gE bE
  by_cases e : j < n
  · rw [if_pos (by omega), if_pos e]
  · rw [if_neg (by omega), if_neg e, if_neg (by omega)]
theorem bE_row {n c k a : Nat} {L Q l : List Int} (h : Fl (bE n L k Q a k) c l) (hc : c = n + k) : Fl (bE n L k Q (a + 1) (a + 1)) c l := h.congr fun i j hij hj => by
  unfold bE
  by_cases e : j < n
  · rw [if_pos e, if_pos e]
  · rw [if_neg e, if_neg e]
    by_cases e2 : n ≤ i ∧ (i < n + a ∨ (i = n + a ∧ j < n + k))
    · rw [if_pos e2, if_pos (by omega)]
    · rw [if_neg e2, if_neg (by omega)]
theorem bE_next {n c k a b : Nat} {L Q l : List Int} (h : Fl (bE n L k Q a b) c l) (hc : c = n + k) (hab : a ≤ b) (hb : b < k) (hf : fit (ent k Q a b) = true) : Fl (bE n L k Q a (b + 1)) c (l.set (idx c (n + a : Nat) (n + b : Nat)).toNat (ent k Q a b)) :=
  (h.set (by omega) (by omega) hf).congr fun i j hij hj => by
    unfold upd2 bE
    by_cases e : i = n + a ∧ j = n + b
    · rw [if_pos e, if_neg (by omega), if_pos (by omega), e.1, e.2, Nat.add_sub_cancel_left, Nat.add_sub_cancel_left]
    · rw [if_neg e]
      by_cases e1 : j < n
      · rw [if_pos e1, if_pos e1]
      · rw [if_neg e1, if_neg e1]
        by_cases e2 : n ≤ i ∧ (i < n + a ∨ (i = n + a ∧ j < n + b))
        · rw [if_pos e2, if_pos (by omega)]
        · rw [if_neg e2, if_neg (by omega)]
theorem bE_all {n c k : Nat} {L Q l : List Int} (h : Fl (bE n L k Q k k) c l) (hc : c = n + k) : ∀ i j, i < c → j < c → AM c l i j = blk n (AM n L) (AM k Q) i j := by
  have key : ∀ i j, i ≤ j → j < c → ent c l i j = blk n (AM n L) (AM k Q) i j := fun i j hij hj => by
    rw [h.2 i j hij hj]
    unfold bE blk
    by_cases e : j < n
    · rw [if_pos e, if_pos (by omega), if_pos e, AM_at (by omega) e]
    · rw [if_neg e]
      by_cases e2 : i < n
      · rw [if_neg (by omega), if_pos e2, if_neg e]
      · rw [if_pos (by omega), if_neg e2, if_neg e, AM_at (by omega) (by omega)]
  intro i j hi hj
  rw [AM_at hi hj]
  rcases Nat.le_total i j with h1 | h1
  · exact key i j h1 hj
  · rw [ent_turn, key j i h1 hi]
    unfold blk
    by_cases e1 : i < n <;> by_cases e2 : j < n
    · rw [if_pos e1, if_pos e2, if_pos e2, if_pos e1]; exact AM_symm n L j i
    · rw [if_neg e2, if_pos e1, if_pos e1, if_neg e2]
    · rw [if_pos e2, if_neg e1, if_neg e1, if_pos e2]
    · rw [if_neg e2, if_neg e1, if_neg e1, if_neg e2]; exact AM_symm k Q _ _
theorem blocks {n c k : Nat} {L Q l : List Int} (h : Fl (bE n L k Q k k) c l) (hc : c = n + k) (hL : rt n L = true) (hQ : rt k Q = true) :
    detV c l = det n (AM n L) * det k (AM k Q) ∧ detC c l = 0 ∧ dfV c l = (dfV n L && dfV k Q) := by
  have hA := bE_all h hc
  refine ⟨?_, by unfold detC; rw [h.1]; rfl, ?_⟩
  · unfold detV
    rw [h.1, if_pos rfl, ← det_blk]
    show det c _ = det (n + k) _
    rw [← hc]
    exact det_congr hA
  · rw [Bool.eq_iff_iff, Bool.and_eq_true, dfV_pd h.1, dfV_pd hL, dfV_pd hQ, ← pd_blk, ← hc]
    exact pd_congr hA
set_option maxHeartbeats 8000000 in
theorem rgrow_any {v : Value} {n k : Nat} {L : List Int} {w : World} (h : Sm w v n L) (hR : rt n L = true) (hk : n + k ≤ 8) :
    Calls Tryz.prog 20 #[v, .int .i64 (k : Nat)] w fun r w' => ∃ z, r = .returned (.tuple #[z, .int .i64 0]) ∧ Up w w' ∧ ∃ L', SmO w' z ((n + k : Nat) : Int) L' ∧ Fl (gE n L n n) (n + k) L' := by
  have HR := hid (fun w' (hu : Up w w') => hR ▸ rright_any (h.up hu))
  have HAt := hid (fun w' (hu : Up w w') i j (hi : i < n) (hj : j < n) => rat_ent (i : Nat) (j : Nat) (h.up hu) hR (show rng (n : Int) (i : Nat) (j : Nat) = true from decide_eq_true (by omega)))
  have HRt := hid hR
  have HFit := hid (fun i j (hi : i < n) (hj : j < n) => show fit (ent n L (i : Nat) (j : Nat)) = true from by
    obtain ⟨p, _, hpl, he⟩ := idx_nat hR (show rng (n : Int) i j = true from decide_eq_true (by omega))
    rw [he]; exact (rt_spec hR).2.2.2 p hpl)
  obtain ⟨n0, n8, -, -⟩ := rt_spec hR
  obtain ⟨s, rfl, ⟨p, cap, rfl, -, -⟩, -, -, -⟩ := h
  obtain ⟨W0, hW0⟩ : ∃ W0, (w.alloc (.cells #[.int .i64 n, .slice p L.length cap] 24)).alloc (.cells #[.int .i64 0, .slice none 0 0] 24) = W0 := ⟨_, rfl⟩
  have hB : Blk W0 w.heap.size 24 #[.int .i64 n, .slice p L.length cap] := by rw [← hW0]; exact (Blk.new _ _ rfl).old _
  have hQ : Blk W0 (w.heap.size + 1) 24 #[.int .i64 0, .slice none 0 0] := by rw [← hW0]; exact Blk.new _ _ (by simp)
  have hU : Up w W0 := by rw [← hW0]; exact (Up.alloc _ _).trans (Up.alloc _ _)
  obtain ⟨c, hc⟩ : ∃ c, n + k = c := ⟨_, rfl⟩
  have eC : IntKind.i64.wrap ((n : Int) + k) = c := by rw [show (n : Int) + k = (c : Int) by omega]; exact IntWalk.i64_in _ (by omega)
  have e8 : IntKind.i64.wrap (8 - (n : Int)) = 8 - (n : Int) := IntWalk.i64_in _ (by omega)
  have d1 : decide ((k : Int) < 0) = false := decide_eq_false (by omega)
  have d2 : decide (8 - (n : Int) < (k : Int)) = false := decide_eq_false (by omega)
  have enw : nw (c : Int) = c := by unfold nw; omega
  have HN := hid (fun w => enw ▸ rnewO_any (c : Int) w)
  rw [hc]
  clear hR n0 enw
  go_enter Tryz.func20, Tryz.ntmps20
  go_upto_region 8 with (first
    | ((with_reducible apply ldM_P); exact rfl; exact rfl; exact hB; exact rfl)
    | (go_at_call 12; (with_reducible refine (HR.out _ hU).mono ?_); rintro r w1 ⟨rfl, hu1⟩; have hB1 := hB.up hu1; have hc0 := hB1.cell 0 rfl)
    | (go_at_call 39; (with_reducible refine (HN.out _).mono ?_); rintro r w2 ⟨z2, b2, rfl, hu2, hb2, hO2⟩; obtain ⟨p2, n2, c2, rfl⟩ := OwnI.slice hO2)
    | ((with_reducible apply stM_P); exact rfl; exact rfl; exact Blk.new _ _ rfl; exact rfl; exact rfl; exact two2 _ _ _ _ _
       refine wpL_folded (fun wd => Up w2 wd ∧ Blk wd w2.heap.size 24 #[.int .i64 (c : Int), .slice p2 n2 c2] ∧ OwnI wd b2 (.slice p2 n2 c2) (zeros c)) ⟨gUp, gBlk, (hO2.up (Up.alloc _ _)).setRow (Blk.new _ _ rfl)⟩ ?_
       rintro w3 ⟨hu3, hb3, hO3⟩))
  have hUm := hu2.trans hu3
  have hB3 := hB1.up hUm
  have hQ3 := (hQ.up hu1).up hUm
  have hU3 := (hU.trans hu1).trans hUm
  have HMl := hid (show w.heap.size ≤ b2 from Nat.le_trans (hU.trans hu1).size hb2)
  have HQl := hid (show w.heap.size + 1 < w2.heap.size from Nat.lt_of_lt_of_le (hQ.up hu1).lt hu2.size)
  have HG := hid (show 0 < (zeros (c : Int)).length → ∃ g, p2 = some ⟨g, 0, none⟩ ∧ b2 ≤ g ∧ w.heap.size + 1 < g ∧ g < w2.heap.size ∧ n2 = (zeros (c : Int)).length from fun h0 => by
    obtain ⟨g, cp, C, hv, hbg, hBg, -⟩ := hO2.open h0
    injection hv with x1 x2 x3
    exact ⟨g, x1, hbg, by have := (hQ.up hu1).lt; omega, hBg.lt, x2⟩)
  obtain ⟨bm, hbm⟩ : ∃ y, w2.heap.size = y := ⟨_, rfl⟩
  rw [hbm] at hb3 HQl HG ⊢
  have hc8 : c ≤ 8 := by omega
  have hDs := gE_start (n := n) L hc8
  have HTr := hid (len_zeros (n := (c : Int)) (by omega) (by omega))
  have HB3 := hid hB3
  have HC := hid hc
  clear hu1 hu2 hu3 hUm hbm hO2 hb2 hB hQ hU hB1 hc0 hW0 HN HR hB3 hc
  go_wp2_with fail
  go_loopg [7] n (fun g ta wr => ∃ (a : Nat) (l : List Int), a ≤ n ∧ n - a ≤ g ∧ ta = .int .i64 (a : Nat) ∧ Fl (gE n L a a) c l ∧ OwnI wr b2 (.slice p2 n2 c2) l ∧ l.length = (zeros (c : Int)).length ∧ Blk wr bm 24 #[.int .i64 (c : Int), .slice p2 n2 c2] ∧ Blk wr w.heap.size 24 #[.int .i64 n, .slice p L.length cap] ∧ Blk wr (w.heap.size + 1) 24 #[.int .i64 0, .slice none 0 0] ∧ Up w wr)
  case atStart => exact ⟨0, _, Nat.zero_le _, by omega, rfl, hDs, hO3, rfl, hb3, HB3.out, hQ3, hU3⟩
  case round =>
    clear hDs hO3 hb3 HB3 hQ3 hU3
    obtain ⟨a, l, ha, hag, rfl, hD, hO, hl, hbm, hbs, hbq, hu⟩ := hrel
    have hcc := hbs.cell 0 rfl
    by_cases hlt : a < n
    · have e1 : IntKind.i64.wrap ((a : Int) + 1) = (a : Int) + 1 := IntWalk.i64_in _ (by omega)
      go_wp2_with fail
      clear hcc
      go_loopg [8] n (fun g tb wx => ∃ (b : Nat) (l : List Int), a ≤ b ∧ b ≤ n ∧ n - b ≤ g ∧ tb = .int .i64 (b : Nat) ∧ Fl (gE n L a b) c l ∧ OwnI wx b2 (.slice p2 n2 c2) l ∧ l.length = (zeros (c : Int)).length ∧ Blk wx bm 24 #[.int .i64 (c : Int), .slice p2 n2 c2] ∧ Blk wx w.heap.size 24 #[.int .i64 n, .slice p L.length cap] ∧ Blk wx (w.heap.size + 1) 24 #[.int .i64 0, .slice none 0 0] ∧ Up w wx)
      case atStart => exact ⟨a, l, Nat.le_refl _, ha, by omega, rfl, hD, hO, hl, hbm, hbs, hbq, hu⟩
      case round =>
        clear hD hO hl hbm hbs hbq hu l
        obtain ⟨b, l, hab, hb, hbg, rfl, hD, hO, hl, hbm, hbs, hbq, hu⟩ := hrel
        have hcc := hbs.cell 0 rfl
        by_cases hlb : b < n
        · have hcn : n ≤ c := by have := HC.out; omega
          have e2 : IntKind.i64.wrap ((b : Int) + 1) = (b : Int) + 1 := IntWalk.i64_in _ (by omega)
          obtain ⟨q, hq, hql, -⟩ := idx_nat hD.1 (show rng (c : Int) a b = true from decide_eq_true (by omega))
          have HX := hid (fun w => hq ▸ rat_any (c : Int) (a : Int) (b : Int) (by omega) (by omega) (by omega) (by omega) (by omega) w)
          have hD2 := gE_next hD hab hlb hcn (HFit.out a b (by omega) hlb)
          rw [hq, Int.toNat_natCast] at hD2
          have HA2 := hid (fun w' (hu' : Up w w') => HAt.out w' hu' a b (by omega) (by omega))
          obtain ⟨g, rfl, hbg2, hqg, hgm, rfl⟩ := HG.out (by omega)
          have HKL := hid hql
          have HD2 := hid hD2
          have Hl := hid hl
          obtain ⟨x, hx⟩ : ∃ y, ent n L (a : Nat) (b : Nat) = y := ⟨_, rfl⟩
          rw [hx] at HA2 HD2
          clear hq hD hD2 hx hql hl
          go_wp2_with fail
          refine wp_region_sp (n := 53) 12 [40, 41, 42, 43, 44, 45, 46, 47, 48, 49, 50, 51] [SP.is (.pointer (some ⟨bm, 1, none⟩)), SP.is (.slice (some ⟨g, 0, none⟩) (zeros (c : Int)).length c2), SP.is (.pointer (some ⟨bm, 0, none⟩)), SP.is (.int .i64 (c : Int)), SP.is (.int .i64 (a : Int)), SP.is (.int .i64 (b : Int)), SP.is (.int .i64 (q : Nat)), SP.is (.agg #[.int .i64 (n : Int), .slice p L.length cap]), SP.is (.int .i64 (a : Int)), SP.is (.int .i64 (b : Int)), SP.is (.int .i64 x), SP.is (.pointer (some ⟨g, q, none⟩)), SP.any] (fun wq => Blk wq bm 24 #[.int .i64 (c : Int), .slice (some ⟨g, 0, none⟩) (zeros (c : Int)).length c2] ∧ Blk wq w.heap.size 24 #[.int .i64 n, .slice p L.length cap] ∧ Blk wq (w.heap.size + 1) 24 #[.int .i64 0, .slice none 0 0] ∧ OwnI wq b2 (.slice (some ⟨g, 0, none⟩) (zeros (c : Int)).length c2) l ∧ Up w wq ∧ Below w.heap.size w wq) (by kernel_rfl) (by rfl) (by kernel_rfl) (by kernel_rfl) (fun _ _ h hu => ⟨(h.1).up hu, (h.2.1).up hu, (h.2.2.1).up hu, (h.2.2.2.1).up hu, (h.2.2.2.2.1).trans hu, below_up (h.2.2.2.2.2) hu⟩) ⟨(by first | assumption | exact gBlk), (by first | assumption | exact gBlk), (by first | assumption | exact gBlk), (by assumption), (by first | exact Up.refl _ | assumption), gUp⟩ (fun ev w9 hS9 i o hne hi hev => ?_) (fun gR wE hq hSE huE => ?_)
          · have ⟨hS1, hS2, hS3, hS4, hS5, hSB⟩ := hS9
            have hcC := hev.const
            have hcF := hev.func
            have hcG := hev.global
            rcases i with _ | _ | _ | _ | _ | _ | _ | _ | _ | _ | _ | _ | _ | i
            · obtain rfl := Option.some.inj (show some _ = some o from hi)
              have e6 := hev.other 6 (by kernel_rfl)
              simp [Act.eval] at e6
              exact leavesR_value (u := .pointer (some ⟨bm, 1, none⟩)) (by first | (go_simp; done) | (go_simp; exact rfl)) rfl
            · obtain rfl := Option.some.inj (show some _ = some o from hi)
              have e40 : ev (.tmp 40) = (.pointer (some ⟨bm, 1, none⟩)) := hev.dep 0 40 (by kernel_rfl)
              have hc1 := hS1.cell 1 rfl; exact leavesR_value (u := .slice (some ⟨g, 0, none⟩) (zeros (c : Int)).length c2) (by go_simp) rfl
            · obtain rfl := Option.some.inj (show some _ = some o from hi)
              have e6 := hev.other 6 (by kernel_rfl)
              simp [Act.eval] at e6
              exact leavesR_value (u := .pointer (some ⟨bm, 0, none⟩)) (by first | (go_simp; done) | (go_simp; exact rfl)) rfl
            · obtain rfl := Option.some.inj (show some _ = some o from hi)
              have e42 : ev (.tmp 42) = (.pointer (some ⟨bm, 0, none⟩)) := hev.dep 2 42 (by kernel_rfl)
              have hc1 := hS1.cell 0 rfl; exact leavesR_value (u := .int .i64 (c : Int)) (by go_simp) rfl
            · obtain rfl := Option.some.inj (show some _ = some o from hi)
              have e7 := hev.other 7 (by kernel_rfl)
              simp [Act.eval] at e7
              exact leavesR_value (u := .int .i64 (a : Int)) (by first | (go_simp; done) | (go_simp; exact rfl)) rfl
            · obtain rfl := Option.some.inj (show some _ = some o from hi)
              have e8 := hev.other 8 (by kernel_rfl)
              simp [Act.eval] at e8
              exact leavesR_value (u := .int .i64 (b : Int)) (by first | (go_simp; done) | (go_simp; exact rfl)) rfl
            · obtain rfl := Option.some.inj (show some _ = some o from hi)
              have e43 : ev (.tmp 43) = (.int .i64 (c : Int)) := hev.dep 3 43 (by kernel_rfl)
              have e44 : ev (.tmp 44) = (.int .i64 (a : Int)) := hev.dep 4 44 (by kernel_rfl)
              have e45 : ev (.tmp 45) = (.int .i64 (b : Int)) := hev.dep 5 45 (by kernel_rfl)
              refine leavesR_call ?_ ((HX.out _).mono fun _ _ h => ⟨by rw [h.2]; exact Up.refl _, _, h.1, rfl⟩)
              go_simp
            · obtain rfl := Option.some.inj (show some _ = some o from hi)
              have e2 := hev.other 2 (by kernel_rfl)
              simp [Act.eval] at e2
              exact leavesR_value (run_ldME rfl (by go_simp) hS2 rfl) rfl
            · obtain rfl := Option.some.inj (show some _ = some o from hi)
              have e7 := hev.other 7 (by kernel_rfl)
              simp [Act.eval] at e7
              exact leavesR_value (u := .int .i64 (a : Int)) (by first | (go_simp; done) | (go_simp; exact rfl)) rfl
            · obtain rfl := Option.some.inj (show some _ = some o from hi)
              have e8 := hev.other 8 (by kernel_rfl)
              simp [Act.eval] at e8
              exact leavesR_value (u := .int .i64 (b : Int)) (by first | (go_simp; done) | (go_simp; exact rfl)) rfl
            · obtain rfl := Option.some.inj (show some _ = some o from hi)
              have e47 : ev (.tmp 47) = (.agg #[.int .i64 (n : Int), .slice p L.length cap]) := hev.dep 7 47 (by kernel_rfl)
              have e48 : ev (.tmp 48) = (.int .i64 (a : Int)) := hev.dep 8 48 (by kernel_rfl)
              have e49 : ev (.tmp 49) = (.int .i64 (b : Int)) := hev.dep 9 49 (by kernel_rfl)
              refine leavesR_call ?_ ((HA2.out _ hS5).mono fun _ _ h => ⟨h.2, _, h.1, rfl⟩)
              go_simp
            · obtain rfl := Option.some.inj (show some _ = some o from hi)
              have e41 : ev (.tmp 41) = (.slice (some ⟨g, 0, none⟩) (zeros (c : Int)).length c2) := hev.dep 1 41 (by kernel_rfl)
              have e46 : ev (.tmp 46) = (.int .i64 (q : Nat)) := hev.dep 6 46 (by kernel_rfl)
              have hk : q < (zeros (c : Int)).length := Hl.out ▸ HKL.out; exact leavesR_value (u := .pointer (some ⟨g, q, none⟩)) (by go_simp) rfl
            · exact absurd rfl hne
            · exact absurd (show i + 13 < 13 from (Array.getElem?_eq_some_iff.1 hi).1) (by omega)
          have ⟨hS1, hS2, hS3, hS4, hS5, hSB⟩ := hSE
          have q0 : gR 40 = (.pointer (some ⟨bm, 1, none⟩)) := hq 0 40 (by decide) (by kernel_rfl)
          have q1 : gR 41 = (.slice (some ⟨g, 0, none⟩) (zeros (c : Int)).length c2) := hq 1 41 (by decide) (by kernel_rfl)
          have q2 : gR 42 = (.pointer (some ⟨bm, 0, none⟩)) := hq 2 42 (by decide) (by kernel_rfl)
          have q3 : gR 43 = (.int .i64 (c : Int)) := hq 3 43 (by decide) (by kernel_rfl)
          have q4 : gR 44 = (.int .i64 (a : Int)) := hq 4 44 (by decide) (by kernel_rfl)
          have q5 : gR 45 = (.int .i64 (b : Int)) := hq 5 45 (by decide) (by kernel_rfl)
          have q6 : gR 46 = (.int .i64 (q : Nat)) := hq 6 46 (by decide) (by kernel_rfl)
          have q7 : gR 47 = (.agg #[.int .i64 (n : Int), .slice p L.length cap]) := hq 7 47 (by decide) (by kernel_rfl)
          have q8 : gR 48 = (.int .i64 (a : Int)) := hq 8 48 (by decide) (by kernel_rfl)
          have q9 : gR 49 = (.int .i64 (b : Int)) := hq 9 49 (by decide) (by kernel_rfl)
          have q10 : gR 50 = (.int .i64 x) := hq 10 50 (by decide) (by kernel_rfl)
          have q11 : gR 51 = (.pointer (some ⟨g, q, none⟩)) := hq 11 51 (by decide) (by kernel_rfl)
          refine ⟨fun h => absurd h (by decide), fun o ho => ?_⟩
          obtain rfl := Option.some.inj (show some _ = some o from ho)
          simp only [putL, List.map_cons, List.map_nil, q0, q1, q2, q3, q4, q5, q6, q7, q8, q9, q10, q11, Act.put, pu1, pu2, pu3]
          clear hq hSE q0 q1 q2 q3 q4 q5 q6 q7 q8 q9 q10 q11
          obtain ⟨hcA, hfA⟩ := hS4.cells HKL.out
          have gbm := hS1.other ⟨g, q, none⟩ (.int .i64 x) (by show _ ≠ g; omega)
          have gbs := hS2.other ⟨g, q, none⟩ (.int .i64 x) (by show _ ≠ g; omega)
          have gbq := hS3.other ⟨g, q, none⟩ (.int .i64 x) (by show _ ≠ g; omega)
          have gU := hS5.setCell (p := ⟨g, q, none⟩) (by show _ ≤ g; omega) (.int .i64 x)
          have gO := hS4.set HKL.out x
          go_simp
          clear hcA hfA hS1 hS2 hS3 hS4 hS5 hSB hcc
          go_wp2_with fail
          go_roundg (n - (b + 1))
          case measure => omega
          case rel => exact ⟨b + 1, _, by omega, by omega, Nat.le_refl _, rfl, HD2.out, gO, by rw [List.length_set]; exact Hl.out, gbm, gbs, gbq, gU⟩
        · obtain rfl : b = n := by omega
          have HDr := hid (gE_row hD)
          clear hD
          go_wp2_with fail
          go_roundg (b - (a + 1))
          case measure => omega
          case rel => exact ⟨a + 1, l, by omega, Nat.le_refl _, rfl, HDr.out, hO, hl, hbm, hbs, hbq, hu⟩
    · obtain rfl : a = n := by omega
      have HD := hid hD
      have Hl := hid hl
      clear hD hlt hl
      go_wp2_with (first
        | ((with_reducible apply ldM_P); exact rfl; exact rfl; exact hbm; exact rfl)
        | ((with_reducible apply stM_P); exact rfl; exact rfl; exact hbq; exact rfl; exact rfl; exact two2 _ _ _ _ _))
      exact bodyPost_ret (resMs (u := .int .i64 0) rfl rfl rfl (hbq.setRow _) rfl) rfl ⟨_, rfl, below_setRow hu (by omega) _, l, ⟨_, b2, rfl, hO.setRow hbq, by unfold I64; omega, fun i hi => by
        have := of_decide_eq_true ((rt_spec HD.out.1).2.2.2 i hi)
        unfold I64; omega, by have h1 := HTr.out; have h3 := Hl.out; have h2 := tri_le (n := (c : Int)) (by omega) (by omega); omega⟩, HD.out⟩
theorem xor_all {x : Nat} (h : x < 2 ^ 64) : (2 ^ 64 - 1) ^^^ x = 2 ^ 64 - (x + 1) := by
  apply Nat.eq_of_testBit_eq
  intro i
  rw [Nat.testBit_xor, Nat.testBit_two_pow_sub_one, Nat.testBit_two_pow_sub_succ h]
  by_cases hi : i < 64
  · simp [hi]
  · have : x.testBit i = false := Nat.testBit_lt_two_pow (Nat.lt_of_lt_of_le h (Nat.pow_le_pow_right (by decide) (by omega)))
    simp [hi, this]
theorem bits_not {x : Nat} (h : x < 18446744073709551616) : bits BinOp.xor IntKind.u64 IntKind.u64.max (x : Int) = ((18446744073709551615 - x : Nat) : Int) := by
  have h1 := bits_xor_u64_nat 18446744073709551615 x (by decide) h
  have h2 := xor_all (x := x) h
  rw [show (2 ^ 64 - 1 : Nat) = 18446744073709551615 from rfl, show (2 ^ 64 : Nat) = 18446744073709551616 from rfl] at h2
  rw [h2] at h1
  rw [show (IntKind.u64.max : Int) = ((18446744073709551615 : Nat) : Int) from rfl, h1]
  omega
theorem comp_step {S : Nat → Nat} {X A B c r c' i : Nat} (h : sumL S i + c * bp i + A = B) (hB : B = bp i) (hr : r + c' * 18446744073709551616 + X = 18446744073709551615 + c) : sumL (upd S i r) (i + 1) + c' * bp (i + 1) + (A + X * bp i) = bp (i + 1) := by
  subst hB
  rw [sumL_upd_succ, bp_succ]
  have h2 : (r + c' * 18446744073709551616 + X) * bp i = (18446744073709551615 + c) * bp i := by rw [hr]
  have h3 : r * bp i + c' * (bp i * 18446744073709551616) + X * bp i = 18446744073709551615 * bp i + c * bp i := by grind
  omega
theorem blen_nl {x : Nat} (h : 0 < nl x) : blen x = 64 * (nl x - 1) + Lib.bitLen (limb x (nl x - 1)) := by
  have h1 := blen_limbs (f := limb x) (n := x) (fun i _ => limb_lt x i) h
  rw [sumL_limb, Nat.mod_eq_of_lt (lt_bp_self x)] at h1
  exact h1
theorem size_am {x : Nat} {v : Value} {w : World} (h : Am w v x) (hx : nl x < 50000) :
    Calls Tryz.prog 85 #[v] w fun e w' => e = .returned (.int .i64 (blen x : Nat)) ∧ Up w w' := by
  obtain ⟨a, c, rfl, hc, hcell⟩ := h.open
  by_cases h0 : nl x = 0
  · have e : blen x = 0 := by
      have : x = 0 := by
        rcases Nat.eq_zero_or_pos x with h1 | h1
        · exact h1
        · have := nl_pos h1; omega
      rw [this]; rfl
    rw [e, h0]
    clear hcell e
    go_enter Tryz.func85, Tryz.ntmps85
    go_wp2
    go_ret
    exact ⟨rfl, gUp⟩
  · obtain ⟨j, hj⟩ : ∃ j, nl x = j + 1 := ⟨nl x - 1, by omega⟩
    have hb := blen_nl (x := x) (by omega)
    have hl := limb_lt x j
    obtain ⟨b, rfl, hb1, hcb⟩ := hcell j (by omega)
    have hcW := hcb w (Up.refl _)
    rw [hj, Nat.add_sub_cancel] at hb
    have hbl := fun w' => Tryz.bits_Len64 (limb x j : Nat) w' (by omega) (by omega)
    simp only [Int.toNat_natCast] at hbl
    have HB := hid hbl
    have hle : Lib.bitLen (limb x j) ≤ 64 := by
      rcases Nat.eq_zero_or_pos (limb x j) with h1 | h1
      · rw [h1]; decide
      · exact (bitLen_spec hl (by omega)).2.2.2
    rw [hb, hj]
    clear hcell hcb hbl hb
    generalize limb x j = t at *
    generalize Lib.bitLen t = l at *
    go_enter Tryz.func85, Tryz.ntmps85
    go_wp2_with (go_at_call 118; refine (HB.out _).mono ?_; rintro e w' ⟨rfl, rfl⟩)
    go_ret
    exact ⟨ret_int (by omega), gUp⟩
theorem hb_sum : sumL (upd (fun _ => 0) 15 9223372036854775808) 17 = hb := by
  have h1 := sumL_upd (fun _ => 0) (k := 15) (n := 17) 9223372036854775808 (by decide)
  rw [sumL_zeros] at h1
  unfold hb
  omega
set_option maxHeartbeats 1000000 in
theorem left_hb (b : Nat) (w : World) (hcell : ∀ w', Up w w' → w'.cell? ⟨b, 0, none⟩ = some (.int .u64 1)) (_ : b < w.heap.size) :
    Calls Tryz.prog 87 #[.slice (some ⟨b, 0, none⟩) 1 1, .int .i64 1023] w fun e w' => Up w w' ∧ ∃ v, e = .returned v ∧ Am w' v hb := by
  go_enter Tryz.func87, Tryz.ntmps87
  go_wp2_with (first | ((with_reducible apply mkP (n := 17)); exact rfl; (first | rfl | omega); omega))
  go_loopw [7] (fun ti wr => ∃ (i : Nat) (S : Nat → Nat), i ≤ 1 ∧ ti = .int .i64 (i : Nat) ∧ (i = 0 → S = fun _ => 0) ∧ (i = 1 → S = upd (fun _ => 0) 15 9223372036854775808) ∧ Row wr w.heap.size 31 17 S ∧ Below w.heap.size w wr)
    (fun ti _ => 1 - (intOf ti).toNat)
  case atStart => exact ⟨0, fun _ => 0, by omega, rfl, fun _ => rfl, fun h => by omega, gRow, gUp⟩
  case round =>
    obtain ⟨i, S, hi, rfl, hS0, hS1, hS, hB⟩ := hrel
    by_cases hlt : i < 1
    · obtain rfl : i = 0 := by omega
      obtain rfl := hS0 rfl
      have hcx := hcell _ hB
      clear hS0 hS1
      have hc15 := hS.cell 15 (by decide)
      go_wp2
      refine opU (S := (fun wq => Row wq w.heap.size 31 17 (fun _ => 0) ∧ wq.cell? ⟨b, 0, none⟩ = some (.int .u64 1) ∧ wq.cell? ⟨w.heap.size, 15, none⟩ = some (.int .u64 0) ∧ Below w.heap.size w wq)) (req := (fun j => j != 15)) (fun _ _ h hu => ⟨(h.1).up hu, hu.cell (h.2.1), hu.cell (h.2.2.1), below_up (h.2.2.2) hu⟩) ⟨gRow, (by first | assumption | (apply Blk.cell; exact gBlk; exact rfl)), (by first | assumption | (apply Blk.cell; exact gBlk; exact rfl)), gUp⟩ (fun wS hSS hSu => ?_)
      have ⟨hS1, hS2, hS3, hSB⟩ := hSS
      clear hcx hc15 hB
      have e15 : IntKind.i64.wrap 15 = 15 := by rw [IntKind.wrap_i64]; rfl
      have e16 : IntKind.i64.wrap 16 = 16 := by rw [IntKind.wrap_i64]; rfl
      have e63 : IntKind.u64.wrap 9223372036854775808 = 9223372036854775808 := by rw [IntKind.wrap_u64]; rfl
      have eor : bits BinOp.or IntKind.u64 0 9223372036854775808 = 9223372036854775808 := by
        have := bits_or_u64_nat 0 9223372036854775808 (by decide) (by decide)
        rw [Nat.zero_or] at this
        exact this
      have eoz : bits BinOp.or IntKind.u64 0 0 = 0 := by
        have := bits_or_u64_nat 0 0 (by decide) (by decide)
        rw [Nat.zero_or] at this
        exact this
      refine tkP 0 (some 26) hSu ?_
      refine tkP 1 (some 27) hSu ?_
      refine tkP 2 (some 28) hSu ?_
      refine tkP 3 (some 29) hSu ?_
      refine tkP 4 (some 30) hSu ?_
      refine tkP 5 (some 31) hSu ?_
      refine tkT 6 (some 32) rfl hSu hSS ?_ (hy := fun w' hSw => by ((try dsimp only at hSw); (try obtain ⟨_, _, _, _⟩ := hSw); go_simp; (try exact rfl)))
      refine tkP 7 (some 33) hSu ?_
      refine tkP 8 (some 34) hSu ?_
      refine tkP 9 (some 35) hSu ?_
      refine tkT 10 (some 36) rfl hSu hSS ?_ (hy := fun w' hSw => by ((try dsimp only at hSw); (try obtain ⟨_, _, _, _⟩ := hSw); go_simp; (try exact rfl)))
      refine tkP 11 (some 37) hSu ?_
      refine tkP 12 (some 38) hSu ?_
      refine tkP 13 (some 39) hSu ?_
      refine tkP 14 (some 40) hSu ?_
      refine wpAnyU_one (i := 15) rfl (by kernel_rfl) (by rfl) fun w1 hw1 => ?_
      have hcW := (hS1.up hw1).cell 15 (by omega)
      have hfW := (hS1.up hw1).frozen 15
      go_simp
      clear hcW hfW
      refine wpAnyU_done (by kernel_rfl) (fun wF huE => ?_) _
      have gS := ((hS1.up hw1).set 15 9223372036854775808).up huE
      have gB := below_up ((below_up hSB hw1).setCell (p := ⟨w.heap.size, 15, none⟩) (Nat.le_refl _) (.int .u64 (9223372036854775808 : Nat))) huE
      clear hS1 hS2 hS3 hSB hSS hw1 huE
      have hcx := hcell _ gB
      have hc16 := gS.cell 16 (by decide)
      rw [show upd (fun _ => 0) 15 9223372036854775808 16 = 0 from rfl] at hc16
      go_wp2
      refine opU (S := (fun wq => Row wq w.heap.size 31 17 (upd (fun _ => 0) 15 9223372036854775808) ∧ wq.cell? ⟨b, 0, none⟩ = some (.int .u64 1) ∧ wq.cell? ⟨w.heap.size, 16, none⟩ = some (.int .u64 0) ∧ Below w.heap.size w wq)) (req := (fun j => j != 17)) (fun _ _ h hu => ⟨(h.1).up hu, hu.cell (h.2.1), hu.cell (h.2.2.1), below_up (h.2.2.2) hu⟩) ⟨gRow, (by first | assumption | (apply Blk.cell; exact gBlk; exact rfl)), (by first | assumption | (apply Blk.cell; exact gBlk; exact rfl)), gUp⟩ (fun wS hSS hSu => ?_)
      have ⟨hS1, hS2, hS3, hSB⟩ := hSS
      clear hcx hc16 gB gS
      refine tkP 0 (some 43) hSu ?_
      refine tkP 1 (some 44) hSu ?_
      refine tkP 2 (some 45) hSu ?_
      refine tkP 3 (some 46) hSu ?_
      refine tkP 4 (some 47) hSu ?_
      refine tkP 5 (some 48) hSu ?_
      refine tkP 6 (some 49) hSu ?_
      refine tkT 7 (some 50) rfl hSu hSS ?_ (hy := fun w' hSw => by ((try dsimp only at hSw); (try obtain ⟨_, _, _, _⟩ := hSw); go_simp; (try exact rfl)))
      refine tkP 8 (some 51) hSu ?_
      refine tkP 9 (some 52) hSu ?_
      refine tkP 10 (some 53) hSu ?_
      refine tkT 11 (some 54) rfl hSu hSS ?_ (hy := fun w' hSw => by ((try dsimp only at hSw); (try obtain ⟨_, _, _, _⟩ := hSw); go_simp; (try exact rfl)))
      refine tkP 12 (some 55) hSu ?_
      refine tkP 13 (some 56) hSu ?_
      refine tkP 14 (some 57) hSu ?_
      refine tkP 15 (some 58) hSu ?_
      refine tkP 16 (some 59) hSu ?_
      refine wpAnyU_one (i := 17) rfl (by kernel_rfl) (by rfl) fun w1 hw1 => ?_
      have hcW := (hS1.up hw1).cell 16 (by omega)
      have hfW := (hS1.up hw1).frozen 16
      go_simp
      clear hcW hfW
      refine wpAnyU_done (by kernel_rfl) (fun wF huE => ?_) _
      have gS := ((hS1.up hw1).set 16 0).up huE
      have gB := below_up ((below_up hSB hw1).setCell (p := ⟨w.heap.size, 16, none⟩) (Nat.le_refl _) (.int .u64 (0 : Nat))) huE
      clear hS1 hS2 hS3 hSB hSS hw1 huE
      go_wp2
      go_roundw
      case rel => exact ⟨1, _, by omega, rfl, fun h => by omega, fun _ => rfl, gS.congr fun i _ => by unfold upd; split <;> (first | rfl | (subst_vars; rfl) | simp_all), gB⟩
      case measure => simp [intOf]
    · obtain rfl : i = 1 := by omega
      obtain rfl := hS1 rfl
      clear hS0 hS1
      have hSb : ∀ j, j < 17 → upd (fun _ => 0) 15 9223372036854775808 j < 18446744073709551616 := upd_lt (fun _ _ => by simp) (by decide)
      have ht := trim_row w.heap.size 17 17 17 (upd (fun _ => 0) 15 9223372036854775808) wr hS (Nat.le_refl _) (Nat.le_refl _) (by omega)
      have hres := am_row (c := 17) hS (Nat.le_refl _) (Nat.le_refl _) hSb
      rw [hb_sum] at hres
      have HT := hid ht
      have HR := hid hres
      clear ht hres hSb hS
      generalize lenL (upd (fun _ => 0) 15 9223372036854775808) 17 = n at *
      go_wp2_with (go_at_call 74; (with_reducible refine HT.out.mono ?_); rintro e w' ⟨rfl, hu⟩)
      go_ret
      exact ⟨below_up hB hu, _, rfl, HR.out.up hu⟩
theorem blen_small {x : Nat} (h : x < hb) : blen x < 1024 := by
  obtain ⟨c, hc⟩ : ∃ c, c = 1023 := ⟨_, rfl⟩
  rw [hb_pow c hc] at h
  rcases Nat.lt_or_ge (blen x) 1024 with h1 | h1
  · exact h1
  · have h0 : x ≠ 0 := fun e => by subst e; simp [blen] at h1
    have h2 := blen_le h0
    have h3 : 2 ^ c ≤ 2 ^ (blen x - 1) := Nat.pow_le_pow_right (by decide) (by omega)
    omega
theorem blen_mid {x : Nat} (h1 : hb ≤ x) (h2 : x < bp 16) : blen x = 1024 := by
  obtain ⟨c, hc⟩ : ∃ c, c = 1023 := ⟨_, rfl⟩
  have h3 := bp16
  rw [hb_pow c hc] at h1 h3
  have := blen_of (x := x) (k := c) h1 (by rw [Nat.pow_succ]; omega)
  omega
theorem blen_over {x : Nat} (h : bp 16 ≤ x) : 1024 < blen x := by
  obtain ⟨c, hc⟩ : ∃ c, c = 1024 := ⟨_, rfl⟩
  have h3 := bp_two 16
  rw [show 64 * 16 = c by omega] at h3
  rw [h3] at h
  rcases Nat.lt_or_ge 1024 (blen x) with h1 | h1
  · exact h1
  · have h2 := blen_lt x
    have h4 : 2 ^ blen x ≤ 2 ^ c := Nat.pow_le_pow_right (by decide) (by omega)
    omega
theorem wp_copy {K : Act → World → Prop} {Q : Exit → Act → World → Prop} {a : Act} {w : World} {o : Oper} {d s : Operand} {x g c : Nat} {sp : Option Addr} (hgd : o.guard = none) (ho : o.op = .call { callee := .builtin .copy, args := #[d, s], argTypes := #[44, 44] })
    (hd : a.eval d = .slice (some ⟨g, 0, none⟩) 16 16) (hs : a.eval s = .slice sp (nl x) c) (hA : Am w (.slice sp (nl x) c) x) (hx : nl x ≤ 16) (hg : Row w g 33 16 (fun _ => 0))
    (h : ∀ w', Row w' g 33 16 (limb x) → Below g w w' → K (a.put o.dst (goInt (nl x))) w') : o.wp Tryz.prog a w K Q := by
  obtain ⟨a', c', he, hc, hC⟩ := hA
  obtain ⟨rfl, rfl⟩ : sp = a' ∧ c = c' := by simpa using he
  have hlen : ((cells 16 (limb x)).toList.take (nl x)).length = nl x := by simp [cells_size]; omega
  have hiU : (Tryz.prog.info? 31).map (·.size) = some 1 := by
    have := infoU
    cases hq : Tryz.prog.info? 31 with
    | none => rw [hq] at this; simp at this
    | some i =>
      rw [hq] at this
      simp only [Option.map_some, Option.some.injEq, Prod.mk.injEq] at this
      simp [this.2.1]
  have hcs : ∀ j v, ((cells 16 (limb x)).toList.take (nl x))[j]? = some v → j < nl x ∧ v = .int .u64 (limb x j : Nat) := fun j v hj => by
    have h1 : j < nl x := by
      have := (List.getElem?_eq_some_iff.1 hj).1
      rw [hlen] at this
      exact this
    rw [List.getElem?_take_of_lt h1, Array.getElem?_toList, cells_get 16 _ j (by omega)] at hj
    cases hj
    exact ⟨h1, rfl⟩
  have hst := step_copy_splice (P := Tryz.prog) (ops := #[]) (o := o) (a := a) (w := w) (K := K) (Q := Q) (E := True) hgd d s 44 44 ho 31 undS hiU (some ⟨g, 0, none⟩) sp 16 16 (nl x) c hd hs g 0 (cells 16 (fun _ => 0)).toList 33 hg ((cells 16 (limb x)).toList.take (nl x)) (by rw [hlen]; exact (Nat.min_eq_left hx).symm)
    (fun h0 => by
      rw [hlen] at h0
      obtain ⟨b, C, rfl, hB, hC'⟩ := hC h0
      refine ⟨rfl, _, rfl, fun j v hj => ?_⟩
      obtain ⟨h1, rfl⟩ := hcs j v hj
      have hadd : (⟨b, 0, none⟩ : Addr).add j = ⟨b, j, none⟩ := by unfold Addr.add; split <;> simp_all
      rw [hadd]
      exact hB.cell j (hC' j h1))
    (by rw [hlen]; simp [cells_size]; omega)
    (fun v hv => by
      obtain ⟨j, hj⟩ := List.mem_iff_getElem?.1 hv
      obtain ⟨_, rfl⟩ := hcs j v hj
      rfl) g w (Below.refl _ _) (Nat.le_refl _)
    (fun w' h1 h2 => by
      rw [hlen]
      refine h w' ?_ h2
      have h3 := h1.out
      unfold Row Blk
      rw [h3]
      congr 2
      apply Array.ext
      · rw [List.size_toArray, length_splice _ _ _ (by rw [hlen]; simp [cells_size]; omega)]; simp [cells_size]
      · intro i hi1 hi2
        rw [cells_size] at hi2
        have e1 : (splice (cells 16 (fun _ => 0)).toList 0 ((cells 16 (limb x)).toList.take (nl x)))[i]? = some (.int .u64 (limb x i : Nat)) := by
          unfold splice
          rw [hlen, List.take_zero, List.nil_append, Nat.zero_add]
          by_cases hin : i < nl x
          · rw [List.getElem?_append_left (by rw [hlen]; exact hin), List.getElem?_take_of_lt hin, Array.getElem?_toList, cells_get 16 _ i hi2]
          · rw [List.getElem?_append_right (by rw [hlen]; omega), hlen, List.getElem?_drop, Array.getElem?_toList, show nl x + (i - nl x) = i by omega, cells_get 16 _ i hi2, limb_nl (by omega)]
        have e2 := cells_get 16 (limb x) i hi2
        have e3 : (splice (cells 16 (fun _ => 0)).toList 0 ((cells 16 (limb x)).toList.take (nl x))).toArray[i]? = (cells 16 (limb x))[i]? := by rw [e2, List.getElem?_toArray, e1]
        rw [Array.getElem?_eq_getElem hi1, Array.getElem?_eq_getElem (by rw [cells_size]; exact hi2)] at e3
        exact Option.some.inj e3)
  rw [if_pos (by simp [Region.wanted, hgd])] at hst
  exact hst
theorem Row.belowU {w w' : World} {B b n : Nat} {t : TypeId} {f : Nat → Nat} (hb : Below B w w') (hB : b < B) (h : Row w b t n f) : Row w' b t n f := by
  unfold Row Blk at *; rw [hb.block b hB]; exact h
theorem Blk.belowU {w w' : World} {B b : Nat} {t : TypeId} {C : Array Value} (hb : Below B w w') (hB : b < B) (h : Blk w b t C) : Blk w' b t C := by
  unfold Blk at *; rw [hb.block b hB]; exact h
set_option maxRecDepth 100000 in
set_option maxHeartbeats 4000000 in
theorem to_small {z : Int} {v : Value} {w : World} (h : Big w v z) (hlt : z.natAbs < hb) :
    Calls Tryz.prog 50 #[v] w fun e w' => e = .returned (opt z) ∧ Up w w' := by
  have hbp := hb_pos
  have hb16 := bp16
  have hz : InR z := InR.mk' (by omega)
  rw [opt_yes hz]
  obtain ⟨a, c, rfl, hA⟩ := h
  have hn16 : nl z.natAbs ≤ 16 := nl_le (by omega)
  have hsz := fun w' (h : Up w w') => size_am (hA.up h) (by omega)
  have hbl := blen_small hlt
  have hen := enc_neg hz
  have hep := enc_nn hz
  obtain ⟨p, hp⟩ : ∃ p, decide (z < 0) = p := ⟨_, rfl⟩
  obtain ⟨x, hx⟩ : ∃ x, z.natAbs = x := ⟨_, rfl⟩
  rw [hp, hx]
  rw [hx] at hlt hn16 hsz hbl hA
  have d1 : decide ((1024 : Int) < (blen x : Nat)) = false := decide_eq_false (by omega)
  have d2 : (((blen x : Nat) : Int) == 1024) = false := by simp; omega
  have HSZ := hid hsz
  clear hsz
  generalize blen x = n at *
  cases p with
  | false =>
    have HE := hid (show x = enc z by have := of_decide_eq_false hp; have := (hep (by omega)).1; omega)
    clear hen hep hp hx hz hb16 hbp hlt
    unfold wideV
    go_enter Tryz.func50, Tryz.ntmps50
    go_wp2_with (first | (go_at_call 85; (with_reducible refine (HSZ.out _ gUp).mono ?_); rintro e wQ ⟨rfl, huS⟩))
    have hszS := huS.size
    have hgt : w.heap.size + 1 < wQ.heap.size := by simp at hszS; omega
    refine opU (S := (fun wq => Row wq (w.heap.size + 1) 33 16 (fun _ => 0) ∧ Row wq wQ.heap.size 33 16 (fun _ => 0) ∧ Blk wq w.heap.size 46 #[.bool false, .slice a (nl x) c] ∧ wq.cell? ⟨w.heap.size, 0, none⟩ = some (.bool false) ∧ wq.cell? ⟨w.heap.size, 1, none⟩ = some (.slice a (nl x) c) ∧ Below w.heap.size w wq)) (req := (fun _ => true)) (fun _ _ h hu => ⟨(h.1).up hu, (h.2.1).up hu, (h.2.2.1).up hu, hu.cell (h.2.2.2.1), hu.cell (h.2.2.2.2.1), below_up (h.2.2.2.2.2) hu⟩) ⟨gRow, gRow, gBlk, (by first | assumption | (apply Blk.cell; exact gBlk; exact rfl)), (by first | assumption | (apply Blk.cell; exact gBlk; exact rfl)), gUp⟩ (fun wS hSS hSu => ?_)
    have ⟨hS1, hS2, hS3, hS4, hS5, hSB⟩ := hSS
    refine tkP 0 (some 11) hSu ?_
    refine tkP 1 (some 12) hSu ?_
    refine tkP 2 (some 13) hSu ?_
    refine tkP 3 (some 14) hSu ?_
    refine tkP 4 (some 15) hSu ?_
    refine tkP 5 (some 16) hSu ?_
    refine tkS 6 (some 17) hSu ?_
    refine tkS 7 (some 18) hSu ?_
    refine tkS 8 (some 19) hSu ?_
    refine tkS 9 (some 20) hSu ?_
    refine tkS 10 (some 21) hSu ?_
    refine tkS 11 (some 22) hSu ?_
    refine tkS 12 (some 23) hSu ?_
    refine tkS 13 (some 24) hSu ?_
    refine tkS 14 (some 25) hSu ?_
    refine tkS 15 (some 26) hSu ?_
    refine tkS 16 (some 27) hSu ?_
    refine tkP 17 (some 28) hSu ?_
    refine tkP 18 (some 29) hSu ?_
    refine wpAnyU_done (by kernel_rfl) (fun wE huE => ?_) _
    have ⟨hS1, hS2, hS3, hS4, hS5, hSB⟩ := hSu.out _ _ hSS huE
    clear huE hSS
    have gZ := hS1
    have gW := hS2
    have gBx := hS3
    have gB := hSB
    clear huS
    go_wp2
    refine opU (S := (fun wq => Row wq (w.heap.size + 1) 33 16 (fun _ => 0) ∧ Row wq wQ.heap.size 33 16 (fun _ => 0) ∧ Blk wq w.heap.size 46 #[.bool false, .slice a (nl x) c] ∧ wq.cell? ⟨w.heap.size, 0, none⟩ = some (.bool false) ∧ wq.cell? ⟨w.heap.size, 1, none⟩ = some (.slice a (nl x) c) ∧ Below w.heap.size w wq)) (req := (fun j => j != 3)) (fun _ _ h hu => ⟨(h.1).up hu, (h.2.1).up hu, (h.2.2.1).up hu, hu.cell (h.2.2.2.1), hu.cell (h.2.2.2.2.1), below_up (h.2.2.2.2.2) hu⟩) ⟨gRow, gRow, gBlk, (by first | assumption | (apply Blk.cell; exact gBlk; exact rfl)), (by first | assumption | (apply Blk.cell; exact gBlk; exact rfl)), gUp⟩ (fun wS hSS hSu => ?_)
    have ⟨hS1, hS2, hS3, hS4, hS5, hSB⟩ := hSS
    refine tkP 0 (some 31) hSu ?_
    refine tkP 1 (some 32) hSu ?_
    refine tkT 2 (some 33) rfl hSu hSS ?_ (hy := fun w' hSw => by ((try dsimp only at hSw); (try obtain ⟨_, _, _, _, _, _⟩ := hSw); go_simp; (try exact rfl)))
    refine wpAnyU_one (i := 3) rfl (by kernel_rfl) (by rfl) fun w1 hw1 => ?_
    refine wp_copy rfl rfl rfl rfl (hA.up (below_up hSB hw1)) hn16 (hS2.up hw1) fun w2 hR2 hb2 => ?_
    refine ⟨fun h => by simp at h, ?_⟩
    try simp only [Act.put, pu1]
    refine wpAnyU_done (by kernel_rfl) (fun wF huE => ?_) _
    have hle := hS2.lt
    have hsw := hw1.size
    have gR := hR2.up huE
    have gZ := (Row.belowU hb2 hgt (hS1.up hw1)).up huE
    have gK := (Blk.belowU hb2 (by omega) (hS3.up hw1)).up huE
    have gB : Below w.heap.size w wF := below_up (Below.trans (below_up hSB hw1) (Below.mono hb2 (by omega))) huE
    clear hS1 hS2 hS3 hS4 hS5 hSB hSS hw1 huE hR2 hb2
    have hc0 := gK.cell 0 rfl
    rw [HE.out] at gR
    clear gK
    go_wp2_with (first | ((with_reducible apply ld_rowP undW infoW); exact rfl; exact rfl; exact gRow) | ((with_reducible apply st_rowP infoW); exact rfl; exact rfl; exact gRow) | ((with_reducible apply st_rowZ infoW); exact rfl; exact rfl; exact gRow))
    exact bodyPost_ret (res2 rfl undW infoW _ _ rfl gRow) rfl ⟨rfl, gUp⟩
  | true =>
    have HE := hid (show enc z = bp 16 - x ∧ 0 < x by have := of_decide_eq_true hp; have := (hen (by omega)).1; omega)
    have HR := hid (show x < bp 16 by omega)
    clear hen hep hp hx hz hb16 hbp hlt
    unfold wideV
    go_enter Tryz.func50, Tryz.ntmps50
    go_wp2_with (first | (go_at_call 85; (with_reducible refine (HSZ.out _ gUp).mono ?_); rintro e wQ ⟨rfl, huS⟩))
    have hszS := huS.size
    have hgt : w.heap.size + 1 < wQ.heap.size := by simp at hszS; omega
    refine opU (S := (fun wq => Row wq (w.heap.size + 1) 33 16 (fun _ => 0) ∧ Row wq wQ.heap.size 33 16 (fun _ => 0) ∧ Blk wq w.heap.size 46 #[.bool true, .slice a (nl x) c] ∧ wq.cell? ⟨w.heap.size, 0, none⟩ = some (.bool true) ∧ wq.cell? ⟨w.heap.size, 1, none⟩ = some (.slice a (nl x) c) ∧ Below w.heap.size w wq)) (req := (fun _ => true)) (fun _ _ h hu => ⟨(h.1).up hu, (h.2.1).up hu, (h.2.2.1).up hu, hu.cell (h.2.2.2.1), hu.cell (h.2.2.2.2.1), below_up (h.2.2.2.2.2) hu⟩) ⟨gRow, gRow, gBlk, (by first | assumption | (apply Blk.cell; exact gBlk; exact rfl)), (by first | assumption | (apply Blk.cell; exact gBlk; exact rfl)), gUp⟩ (fun wS hSS hSu => ?_)
    have ⟨hS1, hS2, hS3, hS4, hS5, hSB⟩ := hSS
    refine tkP 0 (some 11) hSu ?_
    refine tkP 1 (some 12) hSu ?_
    refine tkP 2 (some 13) hSu ?_
    refine tkP 3 (some 14) hSu ?_
    refine tkP 4 (some 15) hSu ?_
    refine tkP 5 (some 16) hSu ?_
    refine tkS 6 (some 17) hSu ?_
    refine tkS 7 (some 18) hSu ?_
    refine tkS 8 (some 19) hSu ?_
    refine tkS 9 (some 20) hSu ?_
    refine tkS 10 (some 21) hSu ?_
    refine tkS 11 (some 22) hSu ?_
    refine tkS 12 (some 23) hSu ?_
    refine tkS 13 (some 24) hSu ?_
    refine tkS 14 (some 25) hSu ?_
    refine tkS 15 (some 26) hSu ?_
    refine tkS 16 (some 27) hSu ?_
    refine tkP 17 (some 28) hSu ?_
    refine tkP 18 (some 29) hSu ?_
    refine wpAnyU_done (by kernel_rfl) (fun wE huE => ?_) _
    have ⟨hS1, hS2, hS3, hS4, hS5, hSB⟩ := hSu.out _ _ hSS huE
    clear huE hSS
    have gZ := hS1
    have gW := hS2
    have gBx := hS3
    have gB := hSB
    clear huS
    go_wp2
    refine opU (S := (fun wq => Row wq (w.heap.size + 1) 33 16 (fun _ => 0) ∧ Row wq wQ.heap.size 33 16 (fun _ => 0) ∧ Blk wq w.heap.size 46 #[.bool true, .slice a (nl x) c] ∧ wq.cell? ⟨w.heap.size, 0, none⟩ = some (.bool true) ∧ wq.cell? ⟨w.heap.size, 1, none⟩ = some (.slice a (nl x) c) ∧ Below w.heap.size w wq)) (req := (fun j => j != 3)) (fun _ _ h hu => ⟨(h.1).up hu, (h.2.1).up hu, (h.2.2.1).up hu, hu.cell (h.2.2.2.1), hu.cell (h.2.2.2.2.1), below_up (h.2.2.2.2.2) hu⟩) ⟨gRow, gRow, gBlk, (by first | assumption | (apply Blk.cell; exact gBlk; exact rfl)), (by first | assumption | (apply Blk.cell; exact gBlk; exact rfl)), gUp⟩ (fun wS hSS hSu => ?_)
    have ⟨hS1, hS2, hS3, hS4, hS5, hSB⟩ := hSS
    refine tkP 0 (some 31) hSu ?_
    refine tkP 1 (some 32) hSu ?_
    refine tkT 2 (some 33) rfl hSu hSS ?_ (hy := fun w' hSw => by ((try dsimp only at hSw); (try obtain ⟨_, _, _, _, _, _⟩ := hSw); go_simp; (try exact rfl)))
    refine wpAnyU_one (i := 3) rfl (by kernel_rfl) (by rfl) fun w1 hw1 => ?_
    refine wp_copy rfl rfl rfl rfl (hA.up (below_up hSB hw1)) hn16 (hS2.up hw1) fun w2 hR2 hb2 => ?_
    refine ⟨fun h => by simp at h, ?_⟩
    try simp only [Act.put, pu1]
    refine wpAnyU_done (by kernel_rfl) (fun wF huE => ?_) _
    have hle := hS2.lt
    have hsw := hw1.size
    have gR := hR2.up huE
    have gZ := (Row.belowU hb2 hgt (hS1.up hw1)).up huE
    have gK := (Blk.belowU hb2 (by omega) (hS3.up hw1)).up huE
    have gB : Below w.heap.size w wF := below_up (Below.trans (below_up hSB hw1) (Below.mono hb2 (by omega))) huE
    clear hS1 hS2 hS3 hS4 hS5 hSB hSS hw1 huE hR2 hb2
    have hc0 := gK.cell 0 rfl
    clear gK
    generalize wQ.heap.size = G at *
    go_wp2
    go_loopw [6, 7] (fun tc ti wr => ∃ (i cc : Nat) (S : Nat → Nat), i ≤ 16 ∧ tc = .int .u64 (cc : Nat) ∧ ti = .int .i64 (i : Nat) ∧ cc ≤ 1 ∧ (∀ j, j < 16 → S j < 18446744073709551616) ∧ sumL S i + cc * bp i + sumL (limb x) i = bp i ∧ (∀ j, i ≤ j → j < 16 → S j = limb x j) ∧
        Row wr (w.heap.size + 1) 33 16 (fun _ => 0) ∧ Row wr G 33 16 S ∧ Below w.heap.size w wr)
      (fun _ ti _ => 16 - (intOf ti).toNat)
    case atStart => exact ⟨0, 1, limb x, by omega, rfl, rfl, by omega, fun j _ => limb_lt x j, by simp [sumL_zero, bp_zero], fun _ _ _ => rfl, gZ, gR, gB⟩
    case round =>
      clear gZ gR gB
      obtain ⟨i, cc, S, hi, rfl, rfl, hcc, hSb, hsum, hrest, hZ, hS, hB⟩ := hrel
      have HSb := hid hSb
      have Hsum := hid hsum
      have Hrest := hid hrest
      clear hSb hsum hrest
      by_cases hlt : i < 16
      · have hcx := hS.cell i hlt
        rw [Hrest.out i (Nat.le_refl _) hlt] at hcx
        have hfi := limb_lt x i
        obtain ⟨r, c', hadd, hrc, hrl, hc1⟩ : ∃ r c' : Nat, (∀ w, (callFunc 88 #[.int .u64 (18446744073709551615 - limb x i : Nat), .int .u64 0, .int .u64 (cc : Nat)]).run Tryz.prog w = .ok (.value (.tuple #[.int .u64 (r : Nat), .int .u64 (c' : Nat)])) w) ∧ Hid (r + c' * 18446744073709551616 + limb x i = 18446744073709551615 + cc) ∧ r < 18446744073709551616 ∧ c' ≤ 1 := by
          have h := run_add (18446744073709551615 - limb x i) 0 cc hcc
          simp only [show ((0 : Nat) : Int) = 0 from rfl] at h
          exact ⟨_, _, h, hid (by omega), Nat.mod_lt _ (by decide), by omega⟩
        have hxor := bits_not hfi
        obtain ⟨Y, hY⟩ : ∃ Y, 18446744073709551615 - limb x i = Y := ⟨_, rfl⟩
        rw [hY] at hadd hxor
        clear hY
        have hfs := hS.frozen i
        have gZ := hZ.other ⟨G, i, none⟩ (.int .u64 (r : Nat)) (show w.heap.size + 1 ≠ G by omega)
        have gS := hS.set i r
        have gB := hB.setCell (p := ⟨G, i, none⟩) (show w.heap.size ≤ G by omega) (.int .u64 (r : Nat))
        clear hZ hS hB
        go_wp2
        go_roundw
        case rel =>
          refine ⟨i + 1, c', upd S i r, by omega, rfl, by go_num, hc1, upd_lt HSb.out hrl, ?_, fun j h1 h2 => by rw [upd_other _ _ _ (by omega)]; exact Hrest.out j (by omega) h2, gZ, gS, gB⟩
          rw [sumL_succ (limb x) i]
          exact comp_step Hsum.out rfl hrc.out
        case measure => simp [intOf] <;> omega
      · obtain rfl : i = 16 := by omega
        have he : sumL S 16 = enc z := by
          have h1 := Hsum.out
          have h3 := HE.out
          have h4 := HR.out
          have h5 := sumL_lt HSb.out
          rw [sumL_limb, Nat.mod_eq_of_lt (by omega)] at h1
          rcases Nat.eq_zero_or_pos cc with h0 | h0
          · subst h0; omega
          · have : 1 * bp 16 ≤ cc * bp 16 := Nat.mul_le_mul_right _ h0
            omega
        have gS : Row wr G 33 16 (limb (enc z)) := hS.congr fun j hj => by rw [← he]; exact (limb_sumL HSb.out hj).symm
        clear hS he HSb Hsum Hrest
        go_wp2_with (first | ((with_reducible apply ld_rowP undW infoW); exact rfl; exact rfl; exact gRow) | ((with_reducible apply st_rowP infoW); exact rfl; exact rfl; exact gRow) | ((with_reducible apply st_rowZ infoW); exact rfl; exact rfl; exact gRow))
        exact bodyPost_ret (res2 rfl undW infoW _ _ rfl gRow) rfl ⟨rfl, gUp⟩
set_option maxHeartbeats 4000000 in
theorem to_over {z : Int} {v : Value} {w : World} (h : Big w v z) (hlt : bp 16 ≤ z.natAbs) (hn : nl z.natAbs < 50000) :
    Calls Tryz.prog 50 #[v] w fun e w' => e = .returned (opt z) ∧ Up w w' := by
  have hbp := hb_pos
  have hb16 := bp16
  have hz : ¬ InR z := fun hr => by have := hr.out; omega
  rw [opt_no hz]
  obtain ⟨a, c, rfl, hA⟩ := h
  have hsz := fun w' (h : Up w w') => size_am (hA.up h) hn
  have hbl := blen_over hlt
  generalize decide (z < 0) = p at *
  generalize z.natAbs = x at *
  have d1 : decide ((1024 : Int) < (blen x : Nat)) = true := decide_eq_true (by omega)
  have HSZ := hid hsz
  clear hsz
  generalize blen x = n at *
  clear hz hb16 hbp hlt hbl
  go_enter Tryz.func50, Tryz.ntmps50
  go_wp2_with (first | (go_at_call 85; (with_reducible refine (HSZ.out _ gUp).mono ?_); rintro e wQ ⟨rfl, huS⟩))
  have hszS := huS.size
  have hgt : w.heap.size + 1 < wQ.heap.size := by simp at hszS; omega
  refine opU (S := (fun wq => Row wq (w.heap.size + 1) 33 16 (fun _ => 0) ∧ Row wq wQ.heap.size 33 16 (fun _ => 0) ∧ Below w.heap.size w wq)) (req := (fun _ => true)) (fun _ _ h hu => ⟨(h.1).up hu, (h.2.1).up hu, below_up (h.2.2) hu⟩) ⟨gRow, gRow, gUp⟩ (fun wS hSS hSu => ?_)
  have ⟨hS1, hS2, hSB⟩ := hSS
  refine tkP 0 (some 11) hSu ?_
  refine tkP 1 (some 12) hSu ?_
  refine tkP 2 (some 13) hSu ?_
  refine tkS 3 (some 14) hSu ?_
  refine tkS 4 (some 15) hSu ?_
  refine tkS 5 (some 16) hSu ?_
  refine tkS 6 (some 17) hSu ?_
  refine tkS 7 (some 18) hSu ?_
  refine tkS 8 (some 19) hSu ?_
  refine tkS 9 (some 20) hSu ?_
  refine tkS 10 (some 21) hSu ?_
  refine tkS 11 (some 22) hSu ?_
  refine tkS 12 (some 23) hSu ?_
  refine tkS 13 (some 24) hSu ?_
  refine tkS 14 (some 25) hSu ?_
  refine tkS 15 (some 26) hSu ?_
  refine tkS 16 (some 27) hSu ?_
  refine tkS 17 (some 28) hSu ?_
  refine tkP 18 (some 29) hSu ?_
  refine wpAnyU_done (by kernel_rfl) (fun wE huE => ?_) _
  have ⟨hS1, hS2, hSB⟩ := hSu.out _ _ hSS huE
  clear huE hSS
  have gZ := hS1
  have gW := hS2
  have gB := hSB
  clear huS
  go_wp2_with (first | ((with_reducible apply ld_rowP undW infoW); exact rfl; exact rfl; exact gRow) | ((with_reducible apply st_rowP infoW); exact rfl; exact rfl; exact gRow) | ((with_reducible apply st_rowZ infoW); exact rfl; exact rfl; exact gRow))
  exact bodyPost_ret (res2 rfl undW infoW _ _ rfl gRow) rfl ⟨rfl, gUp⟩
set_option maxHeartbeats 4000000 in
theorem to_mid {z : Int} {v : Value} {w : World} (h : Big w v z) (h1 : hb ≤ z) (h2 : z.natAbs < bp 16) :
    Calls Tryz.prog 50 #[v] w fun e w' => e = .returned (opt z) ∧ Up w w' := by
  have hbp := hb_pos
  have hz : ¬ InR z := fun hr => by have := hr.out; omega
  rw [opt_no hz]
  obtain ⟨a, c, rfl, hA⟩ := h
  have hn16 : nl z.natAbs ≤ 16 := nl_le h2
  have hsz := fun w' (h : Up w w') => size_am (hA.up h) (by omega)
  have hbl := blen_mid (x := z.natAbs) (by omega) h2
  have hp : decide (z < 0) = false := decide_eq_false (by omega)
  rw [hp] at *
  generalize z.natAbs = x at *
  rw [hbl] at hsz
  have d1 : decide ((1024 : Int) < (1024 : Nat)) = false := decide_eq_false (by omega)
  have d2 : (((1024 : Nat) : Int) == 1024) = true := by simp
  have HSZ := hid hsz
  clear hsz
  generalize 1024 = n at HSZ d1 d2
  clear hz hbp h1 h2 hbl
  go_enter Tryz.func50, Tryz.ntmps50
  go_wp2_with (first | (go_at_call 85; (with_reducible refine (HSZ.out _ gUp).mono ?_); rintro e wQ ⟨rfl, huS⟩))
  have hszS := huS.size
  have hgt : w.heap.size + 1 < wQ.heap.size := by simp at hszS; omega
  refine opU (S := (fun wq => Row wq (w.heap.size + 1) 33 16 (fun _ => 0) ∧ Row wq wQ.heap.size 33 16 (fun _ => 0) ∧ Blk wq w.heap.size 46 #[.bool false, .slice a (nl x) c] ∧ wq.cell? ⟨w.heap.size, 0, none⟩ = some (.bool false) ∧ Below w.heap.size w wq)) (req := (fun _ => true)) (fun _ _ h hu => ⟨(h.1).up hu, (h.2.1).up hu, (h.2.2.1).up hu, hu.cell (h.2.2.2.1), below_up (h.2.2.2.2) hu⟩) ⟨gRow, gRow, gBlk, (by first | assumption | (apply Blk.cell; exact gBlk; exact rfl)), gUp⟩ (fun wS hSS hSu => ?_)
  have ⟨hS1, hS2, hS3, hS4, hSB⟩ := hSS
  refine tkP 0 (some 11) hSu ?_
  refine tkP 1 (some 12) hSu ?_
  refine tkP 2 (some 13) hSu ?_
  refine tkP 3 (some 14) hSu ?_
  refine tkP 4 (some 15) hSu ?_
  refine tkP 5 (some 16) hSu ?_
  refine tkP 6 (some 17) hSu ?_
  refine tkT 7 (some 18) rfl hSu hSS ?_ (hy := fun w' hSw => by ((try dsimp only at hSw); (try obtain ⟨_, _, _, _, _⟩ := hSw); go_simp; (try exact rfl)))
  refine tkP 8 (some 19) hSu ?_
  refine tkP 9 (some 20) hSu ?_
  refine tkS 10 (some 21) hSu ?_
  refine tkS 11 (some 22) hSu ?_
  refine tkS 12 (some 23) hSu ?_
  refine tkS 13 (some 24) hSu ?_
  refine tkS 14 (some 25) hSu ?_
  refine tkS 15 (some 26) hSu ?_
  refine tkP 16 (some 27) hSu ?_
  refine tkP 17 (some 28) hSu ?_
  refine tkP 18 (some 29) hSu ?_
  refine wpAnyU_done (by kernel_rfl) (fun wE huE => ?_) _
  have ⟨hS1, hS2, hS3, hS4, hSB⟩ := hSu.out _ _ hSS huE
  clear huE hSS
  have gZ := hS1
  have gW := hS2
  have gB := hSB
  clear huS
  go_wp2_with (first | ((with_reducible apply ld_rowP undW infoW); exact rfl; exact rfl; exact gRow) | ((with_reducible apply st_rowP infoW); exact rfl; exact rfl; exact gRow) | ((with_reducible apply st_rowZ infoW); exact rfl; exact rfl; exact gRow))
  exact bodyPost_ret (res2 rfl undW infoW _ _ rfl gRow) rfl ⟨rfl, gUp⟩
theorem ord_iff {x y : Nat} : (((ordZ x y : Int) != 0) = true) ↔ x ≠ y := by
  unfold ordZ
  by_cases h1 : x < y
  · simp [h1]; omega
  · by_cases h2 : y < x
    · simp [h1, h2]; omega
    · simp [h1, h2]; omega
set_option maxHeartbeats 4000000 in
theorem to_below {z : Int} {v : Value} {w : World} (h : Big w v z) (h1 : z < -(hb : Int)) (h2 : z.natAbs < bp 16) :
    Calls Tryz.prog 50 #[v] w fun e w' => e = .returned (opt z) ∧ Up w w' := by
  have hbp := hb_pos
  have hz : ¬ InR z := fun hr => by have := hr.out; omega
  rw [opt_no hz]
  obtain ⟨a, c, rfl, hA⟩ := h
  have hn16 : nl z.natAbs ≤ 16 := nl_le h2
  have hnh : nl hb ≤ 16 := nl_le (by have := bp16; omega)
  have hsz := fun w' (h : Up w w') => size_am (hA.up h) (by omega)
  have hbl := blen_mid (x := z.natAbs) (by omega) h2
  have hp : decide (z < 0) = true := decide_eq_true (by omega)
  have ho : ((ordZ z.natAbs hb : Int) != 0) = true := ord_iff.2 (by omega)
  rw [hp] at *
  generalize z.natAbs = x at *
  rw [hbl] at hsz
  have d1 : decide ((1024 : Int) < (1024 : Nat)) = false := decide_eq_false (by omega)
  have d2 : (((1024 : Nat) : Int) == 1024) = true := by simp
  have HSZ := hid hsz
  have HO := hid ho
  have HA := hid hA
  clear hsz ho hA
  generalize 1024 = n at HSZ d1 d2
  clear hz hbp h1 h2 hbl
  go_enter Tryz.func50, Tryz.ntmps50
  go_wp2_with (first | (go_at_call 85; (with_reducible refine (HSZ.out _ gUp).mono ?_); rintro e wQ ⟨rfl, huS⟩))
  have hszS := huS.size
  have hgt : w.heap.size + 1 < wQ.heap.size := by simp at hszS; omega
  refine opU (S := (fun wq => Row wq (w.heap.size + 1) 33 16 (fun _ => 0) ∧ Row wq wQ.heap.size 33 16 (fun _ => 0) ∧ Blk wq w.heap.size 46 #[.bool true, .slice a (nl x) c] ∧ wq.cell? ⟨w.heap.size, 0, none⟩ = some (.bool true) ∧ wq.cell? ⟨w.heap.size, 1, none⟩ = some (.slice a (nl x) c) ∧ Below w.heap.size w wq)) (req := (fun _ => true)) (fun _ _ h hu => ⟨(h.1).up hu, (h.2.1).up hu, (h.2.2.1).up hu, hu.cell (h.2.2.2.1), hu.cell (h.2.2.2.2.1), below_up (h.2.2.2.2.2) hu⟩) ⟨gRow, gRow, gBlk, (by first | assumption | (apply Blk.cell; exact gBlk; exact rfl)), (by first | assumption | (apply Blk.cell; exact gBlk; exact rfl)), gUp⟩ (fun wS hSS hSu => ?_)
  have ⟨hS1, hS2, hS3, hS4, hS5, hSB⟩ := hSS
  refine tkP 0 (some 11) hSu ?_
  refine tkP 1 (some 12) hSu ?_
  refine tkP 2 (some 13) hSu ?_
  refine tkP 3 (some 14) hSu ?_
  refine tkP 4 (some 15) hSu ?_
  refine tkP 5 (some 16) hSu ?_
  refine tkP 6 (some 17) hSu ?_
  refine tkT 7 (some 18) rfl hSu hSS ?_ (hy := fun w' hSw => by ((try dsimp only at hSw); (try obtain ⟨_, _, _, _, _, _⟩ := hSw); go_simp; (try exact rfl)))
  refine tkP 8 (some 19) hSu ?_
  refine tkP 9 (some 20) hSu ?_
  refine tkP 10 (some 21) hSu ?_
  refine tkT 11 (some 22) rfl hSu hSS ?_ (hy := fun w' hSw => by ((try dsimp only at hSw); (try obtain ⟨_, _, _, _, _, _⟩ := hSw); go_simp; (try exact rfl)))
  refine wpAnyU_one (i := 12) rfl (by kernel_rfl) (by rfl) fun w1 hw1 => ?_
  go_simp
  refine ⟨fun h1 h2 h3 h4 h5 h6 => ⟨h1.up (Up.alloc _ _), h2.up (Up.alloc _ _), h3.up (Up.alloc _ _), (Up.alloc _ _).cell h4, (Up.alloc _ _).cell h5, below_up h6 (Up.alloc _ _)⟩, ?_⟩
  have gO : Row (w1.alloc (.cells #[.int .u64 1] 31)) w1.heap.size 31 1 (fun _ => 1) := row_one (X := 1) rfl
  have gSO : Up wS (w1.alloc (.cells #[.int .u64 1] 31)) := hw1.trans (Up.alloc _ _)
  have gU : Up w (w1.alloc (.cells #[.int .u64 1] 31)) := below_up hSB gSO
  generalize w1.alloc (.cells #[.int .u64 1] 31) = wO at *
  generalize w1.heap.size = bO at *
  refine wpAnyU_callE (i := 13) (d := (some 24)) rfl rfl (by kernel_rfl) (by rfl) hSu.out (fun w' => by go_simp) (fun w' hw' => (left_hb bO w' (fun w'' hu => ((gO.up hw').up hu).cell 0 (by decide)) (gO.up hw').lt)) fun vL wL hwL hRL => ?_
  try simp only [Act.put, pu1, pu2, pu3]
  refine wpAnyU_callE (i := 14) (d := (some 25)) rfl rfl (by kernel_rfl) (by rfl) hSu.out (fun w' => by go_simp) (fun w' hw' => (callE_of (cmp_am (HA.out.up ((gU.trans hwL).trans hw')) (hRL.up hw') (by omega) (by omega)))) fun vC wC hwC hRC => ?_
  try simp only [Act.put, pu1, pu2, pu3]
  obtain rfl := hRC
  have d3 := HO.out
  generalize ordZ x hb = o at *
  refine tkP 15 (some 26) hSu ?_
  refine tkP 16 (some 27) hSu ?_
  refine tkP 17 (some 28) hSu ?_
  refine tkP 18 (some 29) hSu ?_
  refine wpAnyU_done (by kernel_rfl) (fun wF huE => ?_) _
  have hE := ((gSO.trans hwL).trans hwC).trans huE
  have gZ := hS1.up hE
  have gW := hS2.up hE
  have gB := below_up hSB hE
  clear huS hS1 hS2 hS3 hS4 hS5 hSB hSS hE gSO gU hwL hwC huE gO
  go_wp2_with (first | ((with_reducible apply ld_rowP undW infoW); exact rfl; exact rfl; exact gRow) | ((with_reducible apply st_rowP infoW); exact rfl; exact rfl; exact gRow) | ((with_reducible apply st_rowZ infoW); exact rfl; exact rfl; exact gRow))
  exact bodyPost_ret (res2 rfl undW infoW _ _ rfl gRow) rfl ⟨rfl, gUp⟩
set_option maxHeartbeats 4000000 in
theorem to_least {z : Int} {v : Value} {w : World} (h : Big w v z) (h1 : z = -(hb : Int)) :
    Calls Tryz.prog 50 #[v] w fun e w' => e = .returned (opt z) ∧ Up w w' := by
  have hbp := hb_pos
  have hb16 := bp16
  have hz : InR z := InR.mk' (by omega)
  rw [opt_yes hz]
  obtain ⟨a, c, rfl, hA⟩ := h
  have hn16 : nl z.natAbs ≤ 16 := nl_le (by omega)
  have hnh : nl hb ≤ 16 := nl_le (by omega)
  have hsz := fun w' (h : Up w w') => size_am (hA.up h) (by omega)
  have hbl := blen_mid (x := z.natAbs) (by omega) (by omega)
  have hen := enc_neg hz
  have hp : decide (z < 0) = true := decide_eq_true (by omega)
  have ho : ((ordZ z.natAbs hb : Int) != 0) = false := by
    rw [show z.natAbs = hb by omega]
    unfold ordZ; simp
  obtain ⟨x, hx⟩ : ∃ x, z.natAbs = x := ⟨_, rfl⟩
  rw [hx] at hn16 hsz hbl hA ho hen
  rw [hp, hx]
  rw [hbl] at hsz
  have d1 : decide ((1024 : Int) < (1024 : Nat)) = false := decide_eq_false (by omega)
  have d2 : (((1024 : Nat) : Int) == 1024) = true := by simp
  have HSZ := hid hsz
  have HO := hid ho
  have HA := hid hA
  have HE := hid (show enc z = bp 16 - x ∧ 0 < x by have := (hen (by omega)).1; omega)
  have HR := hid (show x < bp 16 by omega)
  clear hsz ho hA hen
  generalize 1024 = n at HSZ d1 d2
  clear hbp h1 hbl hp hx hb16 hz
  unfold wideV
  go_enter Tryz.func50, Tryz.ntmps50
  go_wp2_with (first | (go_at_call 85; (with_reducible refine (HSZ.out _ gUp).mono ?_); rintro e wQ ⟨rfl, huS⟩))
  have hszS := huS.size
  have hgt : w.heap.size + 1 < wQ.heap.size := by simp at hszS; omega
  refine opU (S := (fun wq => Row wq (w.heap.size + 1) 33 16 (fun _ => 0) ∧ Row wq wQ.heap.size 33 16 (fun _ => 0) ∧ Blk wq w.heap.size 46 #[.bool true, .slice a (nl x) c] ∧ wq.cell? ⟨w.heap.size, 0, none⟩ = some (.bool true) ∧ wq.cell? ⟨w.heap.size, 1, none⟩ = some (.slice a (nl x) c) ∧ Below w.heap.size w wq)) (req := (fun _ => true)) (fun _ _ h hu => ⟨(h.1).up hu, (h.2.1).up hu, (h.2.2.1).up hu, hu.cell (h.2.2.2.1), hu.cell (h.2.2.2.2.1), below_up (h.2.2.2.2.2) hu⟩) ⟨gRow, gRow, gBlk, (by first | assumption | (apply Blk.cell; exact gBlk; exact rfl)), (by first | assumption | (apply Blk.cell; exact gBlk; exact rfl)), gUp⟩ (fun wS hSS hSu => ?_)
  have ⟨hS1, hS2, hS3, hS4, hS5, hSB⟩ := hSS
  refine tkP 0 (some 11) hSu ?_
  refine tkP 1 (some 12) hSu ?_
  refine tkP 2 (some 13) hSu ?_
  refine tkP 3 (some 14) hSu ?_
  refine tkP 4 (some 15) hSu ?_
  refine tkP 5 (some 16) hSu ?_
  refine tkP 6 (some 17) hSu ?_
  refine tkT 7 (some 18) rfl hSu hSS ?_ (hy := fun w' hSw => by ((try dsimp only at hSw); (try obtain ⟨_, _, _, _, _, _⟩ := hSw); go_simp; (try exact rfl)))
  refine tkP 8 (some 19) hSu ?_
  refine tkP 9 (some 20) hSu ?_
  refine tkP 10 (some 21) hSu ?_
  refine tkT 11 (some 22) rfl hSu hSS ?_ (hy := fun w' hSw => by ((try dsimp only at hSw); (try obtain ⟨_, _, _, _, _, _⟩ := hSw); go_simp; (try exact rfl)))
  refine wpAnyU_one (i := 12) rfl (by kernel_rfl) (by rfl) fun w1 hw1 => ?_
  go_simp
  refine ⟨fun h1 h2 h3 h4 h5 h6 => ⟨h1.up (Up.alloc _ _), h2.up (Up.alloc _ _), h3.up (Up.alloc _ _), (Up.alloc _ _).cell h4, (Up.alloc _ _).cell h5, below_up h6 (Up.alloc _ _)⟩, ?_⟩
  have gO : Row (w1.alloc (.cells #[.int .u64 1] 31)) w1.heap.size 31 1 (fun _ => 1) := row_one (X := 1) rfl
  have gSO : Up wS (w1.alloc (.cells #[.int .u64 1] 31)) := hw1.trans (Up.alloc _ _)
  have gU : Up w (w1.alloc (.cells #[.int .u64 1] 31)) := below_up hSB gSO
  generalize w1.alloc (.cells #[.int .u64 1] 31) = wO at *
  generalize w1.heap.size = bO at *
  refine wpAnyU_callE (i := 13) (d := (some 24)) rfl rfl (by kernel_rfl) (by rfl) hSu.out (fun w' => by go_simp) (fun w' hw' => (left_hb bO w' (fun w'' hu => ((gO.up hw').up hu).cell 0 (by decide)) (gO.up hw').lt)) fun vL wL hwL hRL => ?_
  try simp only [Act.put, pu1, pu2, pu3]
  refine wpAnyU_callE (i := 14) (d := (some 25)) rfl rfl (by kernel_rfl) (by rfl) hSu.out (fun w' => by go_simp) (fun w' hw' => (callE_of (cmp_am (HA.out.up ((gU.trans hwL).trans hw')) (hRL.up hw') (by omega) (by omega)))) fun vC wC hwC hRC => ?_
  try simp only [Act.put, pu1, pu2, pu3]
  obtain rfl := hRC
  have d3 := HO.out
  generalize ordZ x hb = o at *
  refine tkP 15 (some 26) hSu ?_
  refine tkP 16 (some 27) hSu ?_
  refine tkP 17 (some 28) hSu ?_
  refine tkP 18 (some 29) hSu ?_
  refine wpAnyU_done (by kernel_rfl) (fun wF huE => ?_) _
  have hE := ((gSO.trans hwL).trans hwC).trans huE
  have gZ := hS1.up hE
  have gW := hS2.up hE
  have gBx := hS3.up hE
  have gB := below_up hSB hE
  have hA := HA.out
  clear huS hS1 hS2 hS3 hS4 hS5 hSB hSS hE gSO gU hwL hwC huE gO
  go_wp2
  refine opU (S := (fun wq => Row wq (w.heap.size + 1) 33 16 (fun _ => 0) ∧ Row wq wQ.heap.size 33 16 (fun _ => 0) ∧ Blk wq w.heap.size 46 #[.bool true, .slice a (nl x) c] ∧ wq.cell? ⟨w.heap.size, 0, none⟩ = some (.bool true) ∧ wq.cell? ⟨w.heap.size, 1, none⟩ = some (.slice a (nl x) c) ∧ Below w.heap.size w wq)) (req := (fun j => j != 3)) (fun _ _ h hu => ⟨(h.1).up hu, (h.2.1).up hu, (h.2.2.1).up hu, hu.cell (h.2.2.2.1), hu.cell (h.2.2.2.2.1), below_up (h.2.2.2.2.2) hu⟩) ⟨gRow, gRow, gBlk, (by first | assumption | (apply Blk.cell; exact gBlk; exact rfl)), (by first | assumption | (apply Blk.cell; exact gBlk; exact rfl)), gUp⟩ (fun wS hSS hSu => ?_)
  have ⟨hS1, hS2, hS3, hS4, hS5, hSB⟩ := hSS
  refine tkP 0 (some 31) hSu ?_
  refine tkP 1 (some 32) hSu ?_
  refine tkT 2 (some 33) rfl hSu hSS ?_ (hy := fun w' hSw => by ((try dsimp only at hSw); (try obtain ⟨_, _, _, _, _, _⟩ := hSw); go_simp; (try exact rfl)))
  refine wpAnyU_one (i := 3) rfl (by kernel_rfl) (by rfl) fun w1 hw1 => ?_
  refine wp_copy rfl rfl rfl rfl (hA.up (below_up hSB hw1)) hn16 (hS2.up hw1) fun w2 hR2 hb2 => ?_
  refine ⟨fun h => by simp at h, ?_⟩
  try simp only [Act.put, pu1]
  refine wpAnyU_done (by kernel_rfl) (fun wF huE => ?_) _
  have hle := hS2.lt
  have hsw := hw1.size
  have gR := hR2.up huE
  have gZ := (Row.belowU hb2 hgt (hS1.up hw1)).up huE
  have gK := (Blk.belowU hb2 (by omega) (hS3.up hw1)).up huE
  have gB : Below w.heap.size w wF := below_up (Below.trans (below_up hSB hw1) (Below.mono hb2 (by omega))) huE
  clear hS1 hS2 hS3 hS4 hS5 hSB hSS hw1 huE hR2 hb2
  have hc0 := gK.cell 0 rfl
  clear gK
  generalize wQ.heap.size = G at *
  go_wp2
  go_loopw [6, 7] (fun tc ti wr => ∃ (i cc : Nat) (S : Nat → Nat), i ≤ 16 ∧ tc = .int .u64 (cc : Nat) ∧ ti = .int .i64 (i : Nat) ∧ cc ≤ 1 ∧ (∀ j, j < 16 → S j < 18446744073709551616) ∧ sumL S i + cc * bp i + sumL (limb x) i = bp i ∧ (∀ j, i ≤ j → j < 16 → S j = limb x j) ∧
      Row wr (w.heap.size + 1) 33 16 (fun _ => 0) ∧ Row wr G 33 16 S ∧ Below w.heap.size w wr)
    (fun _ ti _ => 16 - (intOf ti).toNat)
  case atStart => exact ⟨0, 1, limb x, by omega, rfl, rfl, by omega, fun j _ => limb_lt x j, by simp [sumL_zero, bp_zero], fun _ _ _ => rfl, gZ, gR, gB⟩
  case round =>
    clear gZ gR gB
    obtain ⟨i, cc, S, hi, rfl, rfl, hcc, hSb, hsum, hrest, hZ, hS, hB⟩ := hrel
    have HSb := hid hSb
    have Hsum := hid hsum
    have Hrest := hid hrest
    clear hSb hsum hrest
    by_cases hlt : i < 16
    · have hcx := hS.cell i hlt
      rw [Hrest.out i (Nat.le_refl _) hlt] at hcx
      have hfi := limb_lt x i
      obtain ⟨r, c', hadd, hrc, hrl, hc1⟩ : ∃ r c' : Nat, (∀ w, (callFunc 88 #[.int .u64 (18446744073709551615 - limb x i : Nat), .int .u64 0, .int .u64 (cc : Nat)]).run Tryz.prog w = .ok (.value (.tuple #[.int .u64 (r : Nat), .int .u64 (c' : Nat)])) w) ∧ Hid (r + c' * 18446744073709551616 + limb x i = 18446744073709551615 + cc) ∧ r < 18446744073709551616 ∧ c' ≤ 1 := by
        have h := run_add (18446744073709551615 - limb x i) 0 cc hcc
        simp only [show ((0 : Nat) : Int) = 0 from rfl] at h
        exact ⟨_, _, h, hid (by omega), Nat.mod_lt _ (by decide), by omega⟩
      have hxor := bits_not hfi
      obtain ⟨Y, hY⟩ : ∃ Y, 18446744073709551615 - limb x i = Y := ⟨_, rfl⟩
      rw [hY] at hadd hxor
      clear hY
      have hfs := hS.frozen i
      have gZ := hZ.other ⟨G, i, none⟩ (.int .u64 (r : Nat)) (show w.heap.size + 1 ≠ G by omega)
      have gS := hS.set i r
      have gB := hB.setCell (p := ⟨G, i, none⟩) (show w.heap.size ≤ G by omega) (.int .u64 (r : Nat))
      clear hZ hS hB
      go_wp2
      go_roundw
      case rel =>
        refine ⟨i + 1, c', upd S i r, by omega, rfl, by go_num, hc1, upd_lt HSb.out hrl, ?_, fun j h1 h2 => by rw [upd_other _ _ _ (by omega)]; exact Hrest.out j (by omega) h2, gZ, gS, gB⟩
        rw [sumL_succ (limb x) i]
        exact comp_step Hsum.out rfl hrc.out
      case measure => simp [intOf] <;> omega
    · obtain rfl : i = 16 := by omega
      have he : sumL S 16 = enc z := by
        have h1 := Hsum.out
        have h3 := HE.out
        have h4 := HR.out
        have h5 := sumL_lt HSb.out
        rw [sumL_limb, Nat.mod_eq_of_lt (by omega)] at h1
        rcases Nat.eq_zero_or_pos cc with h0 | h0
        · subst h0; omega
        · have : 1 * bp 16 ≤ cc * bp 16 := Nat.mul_le_mul_right _ h0
          omega
      have gS : Row wr G 33 16 (limb (enc z)) := hS.congr fun j hj => by rw [← he]; exact (limb_sumL HSb.out hj).symm
      clear hS he HSb Hsum Hrest
      go_wp2_with (first | ((with_reducible apply ld_rowP undW infoW); exact rfl; exact rfl; exact gRow) | ((with_reducible apply st_rowP infoW); exact rfl; exact rfl; exact gRow) | ((with_reducible apply st_rowZ infoW); exact rfl; exact rfl; exact gRow))
      exact bodyPost_ret (res2 rfl undW infoW _ _ rfl gRow) rfl ⟨rfl, gUp⟩
theorem to_any {z : Int} {v : Value} {w : World} (h : Big w v z) (hn : nl z.natAbs < 50000) :
    Calls Tryz.prog 50 #[v] w fun e w' => e = .returned (opt z) ∧ Up w w' := by
  have hb16 := bp16
  by_cases h1 : z.natAbs < hb
  · exact to_small h h1
  by_cases h2 : bp 16 ≤ z.natAbs
  · exact to_over h h2 hn
  by_cases h3 : 0 ≤ z
  · exact to_mid h (by omega) (by omega)
  by_cases h4 : z = -(hb : Int)
  · exact to_least h h4
  · exact to_below h (by omega) (by omega)
theorem eqSP {ops : Array Oper} {rest : List Oper} {Q : Exit → Act → World → Prop} {a : Act} {w : World} {d : Option Tmp} {s r : Tmp} {u ty : TypeId} {pos : String} {af : Array Edge} {gd : Option (Nat × Bool)} {p : Nat}
    (hw : Region.wanted { dst := d, op := .binOp .eql 33 (.tmp s) (.tmp r) u, type := ty, pos := pos, after := af, guard := gd } (yielded ops a.tmps) = true) (hx : a.eval (.tmp s) = .agg (cells 16 (limb p))) (hy : a.eval (.tmp r) = .agg (cells 16 (limb p))) (hp : p < bp 16)
    (h : wpList Tryz.prog ops Q rest (a.put d (.bool true)) w) : wpList Tryz.prog ops Q ({ dst := d, op := .binOp .eql 33 (.tmp s) (.tmp r) u, type := ty, pos := pos, after := af, guard := gd } :: rest) a w := wpList_run hw (op_eqS rfl hx hy hp w) h
set_option maxHeartbeats 1000000 in
theorem help_wide {z : Int} {u : Value} {w : World} (hz : InR z) (h : Big w u z) (hn : nl z.natAbs < 50000) :
    Calls Tryz.prog 15 #[wideV (enc z), u] w fun e w' => e = .returned (.bool true) ∧ Up w w' := by
  obtain ⟨b, a, n, c, rfl⟩ := h.shape
  have hl := enc_lt z
  have hT := fun w' (hu : Up w w') => to_any (h.up hu) hn
  rw [opt_yes hz] at hT
  unfold wideV at *
  generalize enc z = y at *
  have HT := hid hT
  clear hT h hz
  go_enter Tryz.func15, Tryz.ntmps15
  go_wp2_with (first | go_skip | ((with_reducible apply ld_rowP undW infoW); exact rfl; exact rfl; exact gRow) | ((with_reducible apply st_rowP infoW); exact rfl; exact rfl; exact gRow) | ((with_reducible apply st_rowZ infoW); exact rfl; exact rfl; exact gRow) | ((with_reducible apply ldB_P); exact rfl; exact rfl; exact gBlk; exact rfl) | ((with_reducible apply eqSP); exact rfl; exact rfl; exact rfl; assumption) | (go_at_call 50; (with_reducible refine (HT.out _ gUp).mono ?_); rintro e wT ⟨rfl, huT⟩; have hsT := huT.size; (try simp at hsT)))
  go_ret
  exact ⟨rfl, gUp⟩
theorem e_det : detV 2 [2, 1, 2] = 3 ∧ detC 2 [2, 1, 2] = 0 := by decide +kernel
theorem e_min : mnR 2 [2, 1, 2] = [2, 3] ∧ mnC 2 [2, 1, 2] = 0 := by decide +kernel
theorem e_bad : detV 1 [] = 0 ∧ detC 1 [] = 23 := by decide +kernel
theorem e_def : dfV 2 [2, 1, 2] = true ∧ dfV 1 [0] = false := by decide +kernel
theorem sm_ex {w : World} {v : Value} (h : Vw w v [2, 1, 2]) : Sm w (.agg #[.int .i64 2, v]) 2 [2, 1, 2] :=
  ⟨_, rfl, h, by unfold I64; omega, fun i hi => by
    rcases i with _ | _ | _ | i
    · unfold I64; decide
    · unfold I64; decide
    · unfold I64; decide
    · simp at hi; omega, by simp⟩
theorem sm_nought {w : World} {v : Value} (h : Vw w v [0]) : Sm w (.agg #[.int .i64 1, v]) 1 [0] :=
  ⟨_, rfl, h, by unfold I64; omega, fun i hi => by
    rcases i with _ | i
    · unfold I64; decide
    · simp at hi, by simp⟩
set_option maxHeartbeats 8000000 in
theorem eknown_true {w : World} (hg : Glob w) :
    Calls Tryz.prog 7 #[] w fun r w' => r = .returned (.bool true) ∧ Up w w' := by
  have HG := hid (fun w' (hu : Up w w') => hg.up hu)
  have hW := vw_three w 2 1 2
  obtain ⟨wA, hwA⟩ : ∃ y, w.alloc (.cells #[.int .i64 2, .int .i64 1, .int .i64 2] 2) = y := ⟨_, rfl⟩
  have hUA : Up w wA := by rw [← hwA]; exact Up.alloc _ _
  obtain ⟨bA, hbA⟩ : ∃ y, w.heap.size = y := ⟨_, rfl⟩
  rw [hwA, hbA] at hW
  obtain ⟨wB, hwB⟩ : ∃ y, wA.alloc (.cells #[.int .i64 2, .slice (some ⟨bA, 0, none⟩) 3 3] 24) = y := ⟨_, rfl⟩
  have hB : Blk wB wA.heap.size 24 #[.int .i64 2, .slice (some ⟨bA, 0, none⟩) 3 3] := by rw [← hwB]; exact Blk.new _ _ rfl
  have hUB : Up wA wB := by rw [← hwB]; exact Up.alloc _ _
  obtain ⟨bB, hbB⟩ : ∃ y, wA.heap.size = y := ⟨_, rfl⟩
  rw [hbB] at hB
  have HS := hid (fun w' (hu : Up wB w') => sm_ex (Vw.up (hUB.trans hu) hW))
  have HD := hid (fun w' (hu : Up wB w') => e_det.1 ▸ e_det.2 ▸ det_any (HS.out w' hu))
  have HM := hid (fun w' (hu : Up wB w') => e_min.1 ▸ e_min.2 ▸ minors_any (HS.out w' hu))
  have HX := hid (fun w' => e_bad.1 ▸ e_bad.2 ▸ det_any (sm_one w'))
  have HF1 := hid (fun w' (hu : Up wB w') => e_def.1 ▸ definite_any (HS.out w' hu))
  have HF0 := hid (fun v w' (h : Vw w' v [0]) => e_def.2 ▸ definite_any (sm_nought h))
  have hU := hUA.trans hUB
  clear hg hW hUA hUB
  go_enter Tryz.func7, Tryz.ntmps7
  go_upto_region 5 with (first
    | ((with_reducible apply ldM_P); exact rfl; exact rfl; (first | exact hB | exact hB2); exact rfl)
    | (go_at_call 10; first
        | ((with_reducible refine (HD.out _ (Up.refl _)).mono ?_); rintro r w1 ⟨u1, rfl, hu1, he1⟩; obtain rfl := he1.elim (fun h => h.2) (fun h => absurd rfl h.1))
        | ((with_reducible refine (HX.out _).mono ?_); rintro r w3 ⟨u3, rfl, hu3, he3⟩))
    | ((with_reducible apply st_rowP infoW); exact rfl; exact rfl; exact row_newz _ rfl
       first
         | (refine wpL_folded (fun wd => Up w3 wd ∧ ErrsE wd u3 23) ⟨gUp, (he3.up (Up.alloc _ _)).setRow (row_newz _ rfl)⟩ ?_
            rintro wE ⟨hXE, he3x⟩)
         | (refine wpL_folded (fun wd => Up w1 wd ∧ Row wd w1.heap.size 33 16 (limb (enc 3))) ⟨gUp, gRow⟩ ?_
            rintro wD ⟨hXD, hRD⟩
            have hU2 := hu1.trans hXD
            have hB2 := hB.up hU2
            obtain ⟨b2, hb2⟩ : ∃ y, w1.heap.size = y := ⟨_, rfl⟩
            rw [hb2] at hRD ⊢))
    | (go_at_call 11; (with_reducible refine (HM.out _ hU2).mono ?_); rintro r w2 ⟨z2, u2, rfl, hu2, hW2, he2⟩; obtain rfl := he2.elim (fun h => h.2) (fun h => absurd rfl h.1); obtain ⟨p2, c2, rfl⟩ := hW2.slice))
  have hUx := (hu2.trans hu3).trans hXE
  have hBx := hB2.up hUx
  have hRx := hRD.up hUx
  have hUw := hU2.trans hUx
  have hGx := hU.trans hUw
  clear hUx hB2 hRD hu1 hXD hU2 hu2 hu3 hXE hW2 he2 he1 he3 hwA hwB hbA hbB
  try simp only [Act.put]
  have hI3 : InR 3 := few_inR (k := 1) (by decide) (by decide +kernel)
  have hn3 : nl (3 : Int).natAbs < 50000 := Nat.lt_of_le_of_lt (nl_le (k := 1) (by decide +kernel)) (by decide)
  have HW3 := hid (fun w u (h : Big w u 3) => help_wide hI3 h hn3)
  unfold wideV at HW3
  refine opU (S := (fun wq => Row wq b2 33 16 (limb (enc 3)) ∧ Blk wq bB 24 #[.int .i64 2, .slice (some ⟨bA, 0, none⟩) 3 3] ∧ ErrsE wq u3 23 ∧ Up wB wq ∧ Below w.heap.size w wq)) (req := (fun _ => true)) (fun _ _ h hu => ⟨(h.1).up hu, (h.2.1).up hu, (h.2.2.1).up hu, (h.2.2.2.1).trans hu, below_up (h.2.2.2.2) hu⟩) ⟨gRow, gBlk, (by assumption), (by first | exact Up.refl _ | assumption), gUp⟩ (fun wS hSS hSu => ?_)
  have ⟨hS1, hS2, hS3, hS4, hSB⟩ := hSS
  refine tkP 0 (some 25) hSu ?_
  refine tkP 1 (some 26) hSu ?_
  refine tkP 2 (some 27) hSu ?_
  refine tkP 3 (some 28) hSu ?_
  refine tkP 4 (some 29) hSu ?_
  refine tkP 5 (some 30) hSu ?_
  refine tkP 6 (some 31) hSu ?_
  refine tkT 7 (some 32) rfl hSu hSS ?_ (hy := fun w' hSw => run_ld undW infoW _ rfl _ rfl hSw.1)
  refine wpAnyU_callE (i := 8) (d := (some 33)) rfl rfl (by kernel_rfl) (by rfl) hSu.out (fun w' => by go_simp) (fun w' hw' => (of_big 3 (by decide) (by decide) w')) fun vG wG hwG hRG => ?_
  try simp only [Act.put, pu1, pu2, pu3]
  replace hSS := hSu.out _ _ hSS hwG
  refine wpAnyU_callE (i := 9) (d := (some 34)) rfl rfl (by kernel_rfl) (by rfl) hSu.out (fun w' => by go_simp) (fun w' hw' => (callE_of (HW3.out _ _ (hRG.up hw')))) fun vF wF hwF hRF => ?_
  try simp only [Act.put, pu1, pu2, pu3]
  obtain rfl := hRF
  replace hSS := hSu.out _ _ hSS hwF
  refine tkP 10 (some 35) hSu ?_
  refine tkP 11 (some 36) hSu ?_
  refine tkP 12 (some 37) hSu ?_
  refine tkP 13 (some 38) hSu ?_
  refine tkP 14 (some 39) hSu ?_
  refine tkP 15 (some 40) hSu ?_
  refine tkP 16 (some 41) hSu ?_
  refine tkP 17 (some 42) hSu ?_
  refine wpAnyU_callE (i := 18) (d := (some 43)) rfl rfl (by kernel_rfl) (by rfl) hSu.out (fun w' => by go_simp) (fun w' hw' => (callE_of (esays_any (hSS.2.2.1.up hw') (HG.out _ (hU.trans (hSS.2.2.2.1.trans hw')))))) fun vS wS hwS hRS => ?_
  try simp only [Act.put, pu1, pu2, pu3]
  obtain rfl := hRS
  replace hSS := hSu.out _ _ hSS hwS
  refine tkP 19 (some 44) hSu ?_
  refine tkP 20 (some 45) hSu ?_
  refine tkT 21 (some 46) rfl hSu hSS ?_ (hy := fun w' hSw => run_ldM rfl rfl hSw.2.1 rfl)
  refine wpAnyU_callE (i := 22) (d := (some 47)) rfl rfl (by kernel_rfl) (by rfl) hSu.out (fun w' => by go_simp) (fun w' hw' => (callE_of (HF1.out _ (hSS.2.2.2.1.trans hw')))) fun vD wD hwD hRD => ?_
  try simp only [Act.put, pu1, pu2, pu3]
  obtain rfl := hRD
  replace hSS := hSu.out _ _ hSS hwD
  refine tkP 23 (some 48) hSu ?_
  refine tkP 24 (some 49) hSu ?_
  refine wpAnyU_one (i := 25) rfl (by kernel_rfl) (by rfl) fun w1 hw1 => ?_
  go_simp
  refine ⟨fun h1 h2 h3 h4 h5 => ⟨h1.up (Up.alloc _ _), h2.up (Up.alloc _ _), h3.up (Up.alloc _ _), h4.trans (Up.alloc _ _), below_up h5 (Up.alloc _ _)⟩, ?_⟩
  have gU := (hSS.2.2.2.1.trans hw1).trans (Up.alloc w1 (.cells #[.int .i64 0] 2))
  refine tkP 26 (some 51) hSu ?_
  refine wpAnyU_callE (i := 27) (d := (some 52)) rfl rfl (by kernel_rfl) (by rfl) hSu.out (fun w' => by go_simp) (fun w' hw' => (callE_of (HF0.out _ _ ((vw_one w1 0).up hw')))) fun vE wE hwE hRE => ?_
  try simp only [Act.put, pu1, pu2, pu3]
  obtain rfl := hRE
  refine tkP 28 (some 53) hSu ?_
  refine tkP 29 (some 54) hSu ?_
  refine tkP 30 (some 0) hSu ?_
  refine wpAnyU_done (by kernel_rfl) (fun wF huE => ?_) _
  have gE := hU.trans ((gU.trans hwE).trans huE)
  clear hS1 hS2 hS3 hS4 hSB hSS huE hwE hw1 gU hRx hBx
  go_wp2
  go_ret
  exact ⟨rfl, gE⟩
def MV (w : World) (v : Value) : Prop := ∃ N L, SmO w v N L
def Pair (a0 : Int) (s0 : Value) (w : World) (v : Value) : Prop :=
  ∃ g N1 s1 L1, v = .slice (some ⟨g, 0, none⟩) 2 2 ∧ Blk w g 24 #[.int .i64 a0, s0, .int .i64 N1, s1] ∧ SmO w (.agg #[.int .i64 N1, s1]) N1 L1
def IsRowX (k : IntKind) (w : World) (a : Option Addr) (len cap : Nat) (zs : List Int) : Prop :=
  (a = none ∧ len = 0 ∧ cap = 0 ∧ zs = []) ∨
  ∃ x, a = some x ∧ len ≤ cap ∧ cap ≤ maxLen ∧ zs.length = cap ∧ (∀ i, i < zs.length → w.cell? (x.add i) = some (.int k (zs.getD i 0))) ∧ ∀ n ∈ zs, (Lit.int k n).wf = true
theorem zth_take {l : List Int} {k i : Nat} (h : i < k) : zth (l.take k) i = zth l i := by
  unfold zth
  rw [List.getD_eq_getElem?_getD, List.getD_eq_getElem?_getD, List.getElem?_take_of_lt h]
theorem wf_nat {k : IntKind} {z : Int} {m : Nat} (h : (Lit.int k z).wf = true) (h0 : k.min = 0) (h1 : k.max = (m : Int)) : ∃ n : Nat, z = (n : Int) ∧ n < m + 1 := by
  have := (Lit.wf_int_iff k z).1 h
  rw [h0, h1] at this
  exact ⟨z.toNat, by omega, by omega⟩
theorem vh_row {w : World} {a : Option Addr} {len cap : Nat} {zs : List Int} (h : IsRowX .i16 w a len cap zs) : Vh w (.slice a len cap) (zs.take len) ∧ In16 (zs.take len) := by
  rcases h with ⟨rfl, rfl, rfl, rfl⟩ | ⟨x, rfl, hl, hm, hz, hc, hw⟩
  · exact ⟨⟨none, 0, rfl, fun i hi => absurd hi (Nat.not_lt_zero _)⟩, fun i hi => absurd hi (Nat.not_lt_zero _)⟩
  · have e : (zs.take len).length = len := by rw [List.length_take]; omega
    refine ⟨⟨some x, cap, by rw [e], fun i hi => ⟨x, rfl, ?_⟩⟩, fun i hi => ?_⟩
    · rw [e] at hi
      rw [zth_take hi]
      exact hc i (by omega)
    · rw [e] at hi
      rw [zth_take hi, zth_get (by omega)]
      have := (Lit.wf_int_iff .i16 _).1 (hw (zs[i]'(by omega)) (List.getElem_mem _))
      rw [IntKind.min_i16, IntKind.max_i16] at this
      omega
set_option linter.unusedSimpArgs false
section
variable {P : Program} {ops : Array Oper} {Q : Exit → Act → World → Prop} {md : Region.Mode}
structure SG where
  p : Value → World → Prop
  up : ∀ v w w', p v w → Up w w' → p v w'
  b : Option Bool
  hb : ∀ c, b = some c → ∀ v w, p v w → v = .bool c
  u : Bool
  hu : u = true → ∀ w, p undef w
def SG.is (c : Value) : SG := ⟨fun v _ => v = c, fun _ _ _ h _ => h, none, (by simp), false, (by simp)⟩
def SG.tt (c : Bool) : SG := ⟨fun v _ => v = .bool c, fun _ _ _ h _ => h, some c, (fun _ h _ _ e => (by injection h with h; subst h; exact e)), false, (by simp)⟩
def SG.no : SG := ⟨fun v _ => v = undef, fun _ _ _ h _ => h, none, (by simp), true, (by simp)⟩
def SG.any : SG := ⟨fun _ _ => True, fun _ _ _ h _ => h, none, (by simp), true, (by simp)⟩
def SG.of (p : Value → World → Prop) (up : ∀ v w w', p v w → Up w w' → p v w') : SG := ⟨p, up, none, (by simp), false, (by simp)⟩
def nthG (L : List SG) (i : Nat) (v : Value) (w : World) : Prop := (L.getD i SG.any).p v w
def wantG (ops : Array Oper) (L : List SG) (i : Nat) : Bool := match (ops[i]?).bind (·.guard) with | none => true | some (j, b) => (L.getD j SG.any).b == some b
def gdB (md : Region.Mode) (ops : Array Oper) (L : List SG) (st i : Nat) : Bool :=
  match ops[i]? with
  | none => true
  | some o => match o.guard with
    | none => true
    | some (j, b) => j != st && (o.after.any fun e => Region.binds md e && e.on == j) && (((ops[j]?).map fun o' => o'.dst.isSome).getD false) && ((L.getD j SG.any).b == some b || ((L.getD j SG.any).b == some (!b) && (L.getD i SG.any).u))
def relG (md : Region.Mode) (ops : Array Oper) (L : List SG) (n st : Nat) : Bool :=
  ((List.range ops.size).all fun i => ((ops[i]?).map fun o => gdB md ops L st i && (o.after.all fun e => !Region.binds md e || decide (e.on < i)) &&
    (if i = st then o.dst.isNone && o.guard.isNone else ((o.dst.map fun d => decide (d < n)).getD false) && (List.range ops.size).all fun j => j == i || ((ops[j]?).map fun o' => o'.dst != o.dst).getD true)).getD false) &&
  (decide (ops.size ≤ st) || (List.range ops.size).all fun j => j == st || waitsU md ops j ops.size st)
theorem relG_op {L : List SG} {n st : Nat} (h : relG md ops L n st = true) {i : Nat} {o : Oper} (hi : ops[i]? = some o) :
    gdB md ops L st i = true ∧ (∀ e ∈ o.after, Region.binds md e = true → e.on < i) ∧ (i = st → o.dst = none ∧ o.guard = none) ∧
    (i ≠ st → ∃ d, o.dst = some d ∧ d < n ∧ ∀ j o', ops[j]? = some o' → j ≠ i → o'.dst ≠ some d) := by
  unfold relG at h
  rw [Bool.and_eq_true] at h
  have hlt : i < ops.size := (Array.getElem?_eq_some_iff.1 hi).1
  have h1 := List.all_eq_true.1 h.1 i (List.mem_range.2 hlt)
  rw [hi] at h1
  simp only [Option.map_some, Option.getD_some, Bool.and_eq_true] at h1
  obtain ⟨⟨h2, h3⟩, h4⟩ := h1
  refine ⟨h2, fun e he hb => ?_, fun hs => ?_, fun hs => ?_⟩
  · have := Array.all_eq_true_iff_forall_mem.1 h3 e he
    simpa [hb] using this
  · rw [if_pos hs, Bool.and_eq_true] at h4
    exact ⟨Option.isNone_iff_eq_none.1 h4.1, Option.isNone_iff_eq_none.1 h4.2⟩
  · rw [if_neg hs, Bool.and_eq_true] at h4
    cases hd : o.dst with
    | none => rw [hd] at h4; simp at h4
    | some d =>
      rw [hd] at h4
      refine ⟨d, rfl, by simpa using h4.1, fun j o' hj hji => ?_⟩
      have h5 := List.all_eq_true.1 h4.2 j (List.mem_range.2 (Array.getElem?_eq_some_iff.1 hj).1)
      rw [hj] at h5
      simp only [Option.map_some, Option.getD_some, Bool.or_eq_true, beq_iff_eq, bne_iff_ne] at h5
      exact h5.resolve_left hji
theorem relG_store {L : List SG} {n st : Nat} (h : relG md ops L n st = true) {j : Nat} (hj : j < ops.size) (hs : st < ops.size) (hne : j ≠ st) : waitsU md ops j ops.size st = true := by
  unfold relG at h
  rw [Bool.and_eq_true, Bool.or_eq_true] at h
  rcases h.2 with h2 | h2
  · have := of_decide_eq_true h2; omega
  · have := List.all_eq_true.1 h2 j (List.mem_range.2 hj)
    simpa [hne] using this
theorem relG_want {L : List SG} {n st : Nat} (h : relG md ops L n st = true) {i : Nat} {o : Oper} (hi : ops[i]? = some o) {a a0 : Act} {w : World} (hn : a.tmps.size = n) {listed : Array Bool}
    (hall : ∀ e ∈ o.after, Region.binds md e = true → listed.getD e.on false = true) (hI : RelInv ops (nthG L) a0 listed a w) :
    Region.wanted o (yielded ops a.tmps) = wantG ops L i ∧ (wantG ops L i = false → ∀ w, nthG L i undef w) := by
  obtain ⟨h1, _, _, _⟩ := relG_op h hi
  unfold gdB at h1
  unfold wantG
  rw [hi] at h1 ⊢
  dsimp only [Option.bind_some] at h1 ⊢
  unfold Region.wanted
  cases hg : o.guard with
  | none => simp [hg]
  | some jb =>
    obtain ⟨j, b⟩ := jb
    rw [hg] at h1
    simp only [Bool.and_eq_true, bne_iff_ne, Array.any_eq_true', beq_iff_eq, Bool.or_eq_true] at h1
    obtain ⟨⟨⟨hjs, e, he, hb, hon⟩, hd⟩, hk⟩ := h1
    cases hoj : ops[j]? with
    | none => rw [hoj] at hd; cases hd
    | some o' =>
      rw [hoj] at hd
      simp only [Option.map_some, Option.getD_some] at hd
      obtain ⟨d, hd⟩ := Option.isSome_iff_exists.1 hd
      obtain ⟨d', hd', hdn, _⟩ := (relG_op h hoj).2.2.2 hjs
      rw [hd] at hd'
      obtain rfl := Option.some.inj hd'
      have hR := hI.done j o' d hoj (by have := hall e he hb; rw [hon] at this; exact this) hd
      have hy : ∀ c, (L.getD j SG.any).b = some c → yielded ops a.tmps j = some c := fun c hc => by
        have hv := (L.getD j SG.any).hb c hc _ _ hR
        unfold yielded
        rw [hoj]
        have hds : d < a.tmps.size := by rw [hn]; exact hdn
        simp only [Option.bind_some, hd]
        rw [Array.getElem?_eq_getElem hds]
        have e2 : a.tmps.getD d undef = a.tmps[d] := by simp [hds]
        rw [e2] at hv
        rw [hv]
      simp only [Option.bind_some, hg]
      rcases hk with hk | ⟨hk, hu⟩
      · rw [hy b hk, hk]; simp
      · rw [hy _ hk, hk]
        refine ⟨by cases b <;> rfl, fun _ w => (L.getD i SG.any).hu hu w⟩
theorem exists_readyG {L : List SG} {n st : Nat} (hB : relG md ops L n st = true) {listed : Array Bool} (hs : listed.size = ops.size) : ∀ k, k < ops.size → listed.getD k true = false → ∃ i, i ∈ Region.ready md ops listed := by
  intro k
  induction k using Nat.strongRecOn with
  | _ k ih =>
    intro hk hl
    obtain ⟨o, ho⟩ : ∃ o, ops[k]? = some o := ⟨ops[k], Array.getElem?_eq_getElem hk⟩
    obtain ⟨_, h2, _⟩ := relG_op hB ho
    by_cases hall : ∀ e ∈ o.after, Region.binds md e = true → listed.getD e.on false = true
    · exact ⟨k, mem_ready.2 ⟨hl, o, ho, hall⟩⟩
    · obtain ⟨e, hne⟩ := Classical.not_forall.1 hall
      obtain ⟨he, hne⟩ := Classical.not_imp.1 hne
      obtain ⟨hb, hne⟩ := Classical.not_imp.1 hne
      have hlt := h2 e he hb
      refine ih e.on hlt (by omega) ?_
      have hsz : e.on < listed.size := by omega
      simp [hsz] at hne ⊢
      exact hne
theorem wpAny_relG {L : List SG} {n st : Nat} {S : World → Prop} {a0 : Act} {w0 : World} (hn : a0.tmps.size = n) (hB : relG md ops L n st = true)
    (hS : ∀ w w', S w → Up w w' → S w')
    (hop : ∀ i o, ops[i]? = some o → i ≠ st → wantG ops L i = true → ∀ ev w, S w → RelEv ops md (nthG L) a0 o ev w → LeavesR P (nthG L i) w ((execOp ev o).run P w))
    (hfin : ∀ a w, a.tmps.size = a0.tmps.size → a.defers = a0.defers → (∀ s, (∀ o' ∈ ops, o'.dst ≠ some s) → a.tmps[s]? = a0.tmps[s]?) → (∀ i o d, ops[i]? = some o → i ≠ st → o.dst = some d → nthG L i (a.tmps.getD d undef) w) → S w → Up w0 w →
      (ops.size ≤ st → Q .normal a w) ∧ (∀ o, ops[st]? = some o → Oper.wp P o a w (Q .normal) Q)) :
    ∀ (fuel : Nat) (listed : Array Bool) (a : Act) (w : World), leftU ops.size listed ≤ fuel → closedU md ops listed → (st < ops.size → listed.getD st true = false) → RelInv ops (nthG L) a0 listed a w → S w → Up w0 w → wpAny P md ops Q fuel listed a w := by
  intro fuel
  induction fuel with
  | zero =>
    intro listed a w hf hcl hst hI hSw hu
    have hz := fun {j} => leftU_zero (listed := listed) (n := ops.size) (by omega) (j := j)
    have hst' : ops.size ≤ st := by
      rcases Nat.lt_or_ge st ops.size with h | h
      · have := hst h; rw [hz h] at this; cases this
      · exact h
    refine ⟨?_, ?_⟩
    · cases hrd : Region.ready md ops listed with
      | nil => rfl
      | cons i l =>
        obtain ⟨h1, o, ho, _⟩ := mem_ready.1 (show i ∈ Region.ready md ops listed by rw [hrd]; exact List.mem_cons_self)
        rw [hz (Array.getElem?_eq_some_iff.1 ho).1] at h1
        cases h1
    · refine (hfin a w hI.size hI.defers hI.other (fun i o d ho hi hd => hI.done i o d ho ?_ hd) hSw hu).1 hst'
      have h1 := hz (Array.getElem?_eq_some_iff.1 ho).1
      have h2 : i < listed.size := by rw [hI.lsize]; exact (Array.getElem?_eq_some_iff.1 ho).1
      simp [h2] at h1 ⊢
      exact h1
  | succ fuel ih =>
    intro listed a w hf hcl hst hI hSw hu
    have hcase : Region.ready md ops listed = [] → ∀ j, j < ops.size → listed.getD j true = true := by
      intro hr j hj
      cases hl : listed.getD j true with
      | true => rfl
      | false =>
        obtain ⟨i, hi⟩ := exists_readyG hB hI.lsize j hj hl
        rw [hr] at hi
        cases hi
    have hfull : ∀ (hz : ∀ j, j < ops.size → j ≠ st → listed.getD j true = true) (i : Nat) (o : Oper) (d : Tmp), ops[i]? = some o → i ≠ st → o.dst = some d → nthG L i (a.tmps.getD d undef) w := by
      intro hz i o d ho hi hd
      refine hI.done i o d ho ?_ hd
      have h1 := hz i (Array.getElem?_eq_some_iff.1 ho).1 hi
      have h2 : i < listed.size := by rw [hI.lsize]; exact (Array.getElem?_eq_some_iff.1 ho).1
      simp [h2] at h1 ⊢
      exact h1
    refine ⟨fun hr => ?_, fun i hi => ?_⟩
    · have hz := hcase hr
      have hst' : ops.size ≤ st := by
        rcases Nat.lt_or_ge st ops.size with h | h
        · have := hst h; rw [hz st h] at this; cases this
        · exact h
      exact (hfin a w hI.size hI.defers hI.other (hfull fun j hj _ => hz j hj) hSw hu).1 hst'
    · obtain ⟨hun, o, ho, hall⟩ := mem_ready.1 hi
      have hlt : i < ops.size := (Array.getElem?_eq_some_iff.1 ho).1
      obtain ⟨hg, _, hdn, hds⟩ := relG_op hB ho
      obtain ⟨hwt, hno⟩ := relG_want hB ho (by rw [hI.size, hn]) hall hI
      by_cases his : i = st
      · subst his
        have hw : Region.wanted o (yielded ops a.tmps) = true := by simp [Region.wanted, (hdn rfl).2]
        unfold wpOp
        simp only [ho, hw, if_true]
        refine .inl ?_
        have hz : ∀ j, j < ops.size → j ≠ i → listed.getD j true = true := by
          intro j hj hne
          have h1 := waitsU_spec hcl ops.size i o ho hall (relG_store hB hj hlt hne)
          have h2 : j < listed.size := by rw [hI.lsize]; exact hj
          simp [h2] at h1 ⊢
          exact h1
        have h1 := (hfin a w hI.size hI.defers hI.other (hfull hz) hSw hu).2 o ho
        have hnil : Region.ready md ops (listed.setIfInBounds i true) = [] := by
          cases hrd : Region.ready md ops (listed.setIfInBounds i true) with
          | nil => rfl
          | cons k l =>
            obtain ⟨h1, ok, hok, _⟩ := mem_ready.1 (show k ∈ Region.ready md ops (listed.setIfInBounds i true) by rw [hrd]; exact List.mem_cons_self)
            have hk : k < ops.size := (Array.getElem?_eq_some_iff.1 hok).1
            by_cases hki : k = i
            · subst hki
              have h2 : k < listed.size := by rw [hI.lsize]; exact hk
              simp [h2] at h1
            · rw [getD_set_ne true (Ne.symm hki), hz k hk hki] at h1
              cases h1
        refine Oper.wp_mono (fun a' w' hq => ?_) h1
        cases fuel with
        | zero => exact ⟨hnil, hq⟩
        | succ f => exact ⟨fun _ => hq, by rw [hnil]; intro j hj; cases hj⟩
      · obtain ⟨d, hd, hdl, hdd⟩ := hds his
        have hev : RelEv ops md (nthG L) a0 o a.eval w := by
          refine ⟨fun _ => rfl, fun _ => rfl, fun _ => rfl, fun s hs => ?_, fun j o' d' hj he hd' => ?_⟩
          · show a.tmps.getD s undef = a0.tmps.getD s undef
            rw [Array.getD_eq_getD_getElem?, Array.getD_eq_getD_getElem?, hI.other s hs]
          · obtain ⟨e, he, hb, rfl⟩ := he
            exact hI.done e.on o' d' hj (hall e he hb) hd'
        have hnext : ∀ v w', nthG L i v w' → Up w w' → wpAny P md ops Q fuel (listed.setIfInBounds i true) (a.put o.dst v) w' := by
          intro v w' hv hu'
          refine ih _ _ _ ?_ (closedU_set hcl hi) (fun h => ?_) ?_ (hS _ _ hSw hu') (hu.trans hu')
          · have := leftU_set (n := ops.size) hlt hun; omega
          · rw [getD_set_ne true his]; exact hst h
          · rw [hd]
            refine ⟨hI.defers, by simp [Act.put, hI.size], by simp [hI.lsize], fun s hs => ?_, fun j o' d' hj hl hd' => ?_⟩
            · have hne : d ≠ s := by
                rintro rfl
                obtain ⟨hx, hy⟩ := Array.getElem?_eq_some_iff.1 ho
                exact hs o (by rw [← hy]; exact Array.getElem_mem hx) hd
              rw [← hI.other s hs]
              simp [Act.put, hne]
            · by_cases hji : j = i
              · subst hji
                rw [ho] at hj
                obtain rfl := Option.some.inj hj
                rw [hd] at hd'
                obtain rfl := Option.some.inj hd'
                have hds : d < a.tmps.size := by rw [hI.size, hn]; exact hdl
                have e : ((a.put (some d) v).tmps.getD d undef) = v := by simp [Act.put, hds]
                rw [e]
                exact hv
              · have hne : d ≠ d' := fun e => hdd j o' hj hji (by rw [hd', e])
                rw [getD_set_ne false (Ne.symm hji)] at hl
                have e : ((a.put (some d) v).tmps.getD d' undef) = a.tmps.getD d' undef := by
                  rw [Array.getD_eq_getD_getElem?, Array.getD_eq_getD_getElem?]
                  simp [Act.put, hne]
                rw [e]
                exact (L.getD j SG.any).up _ _ _ (hI.done j o' d' hj hl hd') hu'
        unfold wpOp
        simp only [ho, hwt]
        cases hwg : wantG ops L i with
        | false =>
          simp only [Bool.false_eq_true, if_false]
          exact hnext _ _ (hno hwg w) (Up.refl _)
        | true =>
        simp only [if_true]
        refine .inl ?_
        have h1 := hop i o ho his hwg a.eval w hSw hev
        unfold Oper.wp
        generalize (execOp a.eval o).run P w = r at *
        cases r with
        | halt x w' => exact h1.elim
        | ok nx w' =>
          cases nx with
          | value u => exact hnext u w' h1.1 h1.2
          | enter f args =>
            obtain ⟨hu', hc⟩ := h1
            refine Calls.mono hc fun e w'' he => ?_
            obtain ⟨hu2, v, rfl, hv⟩ := he
            exact hnext v w'' hv (hu'.trans hu2)
          | _ => exact h1.elim
theorem wp_region_relG {id : Nat} {a0 : Act} {w0 : World} {n : Nat} (st : Nat) (ds : List Tmp) (L : List SG) (S : World → Prop) (hm : P.follows .mixedOrders = true) (hn : a0.tmps.size = n) (hB : relG .any ops L n st = true)
    (hds : ∀ o ∈ ops, ∀ d, o.dst = some d → d ∈ ds)
    (hS : ∀ w w', S w → Up w w' → S w') (h0 : S w0)
    (hop : ∀ i o, ops[i]? = some o → i ≠ st → wantG ops L i = true → ∀ ev w, S w → RelEv ops .any (nthG L) a0 o ev w → LeavesR P (nthG L i) w ((execOp ev o).run P w))
    (hfin : ∀ (g : Tmp → Value) w, (∀ i o d, ops[i]? = some o → i ≠ st → o.dst = some d → nthG L i (g d) w) → S w → Up w0 w →
      (ops.size ≤ st → Q .normal (putL a0 (ds.map fun d => (d, g d))) w) ∧ (∀ o, ops[st]? = some o → Oper.wp P o (putL a0 (ds.map fun d => (d, g d))) w (Q .normal) Q)) :
    (Code.region id ops true).wp P Q a0 w0 := by
  refine wp_region_any hm (wpAny_relG hn hB hS hop (fun a w hs hd ho hr hSw hu => ?_) _ _ _ _ ?_ ?_ ?_ ?_ (hS _ _ h0 (Up.drew w0)) (Up.drew w0))
  · rw [putL_eq (ds := ds) hs hd (fun s hs' => ho s fun o' hm he => hs' (hds o' hm s he))]
    exact hfin (fun d => a.tmps.getD d undef) w hr hSw hu
  · unfold leftU; exact Nat.le_trans (List.length_filter_le _ _) (by simp)
  · intro j oj hj hl
    have : j < ops.size := (Array.getElem?_eq_some_iff.1 hj).1
    simp [this] at hl
  · intro h; simp [h]
  · refine ⟨rfl, rfl, by simp, fun _ _ => rfl, fun i o d ho hl _ => ?_⟩
    have : i < ops.size := (Array.getElem?_eq_some_iff.1 ho).1
    simp [this] at hl
structure EvG (ops : Array Oper) (L : List SG) (a0 : Act) (i : Nat) (ev : Operand → Value) (w : World) : Prop where
  const : ∀ c, ev (.const c) = c
  func : ∀ f, ev (.func f) = .func (.func f) #[] #[]
  global : ∀ g, ev (.global g) = .pointer (some ⟨g, 0, none⟩)
  other : ∀ s, freeB ops s = true → ev (.tmp s) = a0.eval (.tmp s)
  dep : ∀ j d, depB .any ops i j d = true → nthG L j (ev (.tmp d)) w
theorem wp_region_sg {id : Nat} {a0 : Act} {w0 : World} {n : Nat} (st : Nat) (ds : List Tmp) (L : List SG) (S : World → Prop) (hm : P.follows .mixedOrders = true) (hn : a0.tmps.size = n) (hB : relG .any ops L n st = true)
    (hds : dsB ops ds = true) (hS : ∀ w w', S w → Up w w' → S w') (h0 : S w0)
    (hop : ∀ ev w, S w → ∀ i o, i ≠ st → ops[i]? = some o → wantG ops L i = true → EvG ops L a0 i ev w → LeavesR P (nthG L i) w ((execOp ev o).run P w))
    (hfin : ∀ (g : Tmp → Value) w, (∀ i d, i ≠ st → dstB ops i d = true → nthG L i (g d) w) → S w → Up w0 w →
      (ops.size ≤ st → Q .normal (putL a0 (ds.map fun d => (d, g d))) w) ∧ (∀ o, ops[st]? = some o → Oper.wp P o (putL a0 (ds.map fun d => (d, g d))) w (Q .normal) Q)) :
    (Code.region id ops true).wp P Q a0 w0 := by
  refine wp_region_relG (n := n) st ds L S hm hn hB (fun o ho d hd => ?_) hS h0 (fun i o hi hne hwt ev w hSw hev => ?_) (fun g w hr => hfin g w fun i d hne hd => ?_)
  · have := Array.all_eq_true_iff_forall_mem.1 hds o ho
    simpa [hd] using this
  · refine hop ev w hSw i o hne hi hwt ⟨hev.const, hev.func, hev.global, fun s hs => hev.other s fun o' ho' => ?_, fun j d hj => ?_⟩
    · have := Array.all_eq_true_iff_forall_mem.1 hs o' ho'
      simpa using this
    · unfold depB at hj
      rw [hi] at hj
      cases hoj : ops[j]? with
      | none => rw [hoj] at hj; cases hj
      | some o' =>
        rw [hoj] at hj
        simp only [Bool.and_eq_true, Array.any_eq_true', beq_iff_eq] at hj
        obtain ⟨⟨e, he, hb, hon⟩, hd⟩ := hj
        exact hev.dep j o' d hoj ⟨e, he, hb, hon⟩ hd
  · unfold dstB at hd
    cases ho : ops[i]? with
    | none => rw [ho] at hd; cases hd
    | some o' =>
      rw [ho] at hd
      exact hr i o' d ho hne (by simpa using hd)
end
theorem row_range {w : World} {b : Nat} {t : TypeId} {z : Int} (h : Row w b t 16 (limb (enc z))) : w.rangeAt b 0 (wc z) := fun j v hv => by
  show w.cell? ⟨b, 0 + j, none⟩ = some v
  rw [Nat.zero_add]
  exact Blk.cell h j (by rw [← Array.getElem?_toList]; exact hv)
theorem detV_bp {n : Nat} {l : List Int} (h : rt n l = true) : (det n (AM n l)).natAbs < bp 5 := by
  have h8 := (rt_spec h).2.1
  rcases n with _ | n
  · have := (St.start h).2.2
    exact this
  · have h1 := det_abs (n := n + 1) (m := 1073741824) (A := AM (n + 1) l) fun i j _ _ => AM_abs h i j
    have h2 := bb_bp (k := n) (by omega)
    unfold bb at h2
    rw [Nat.zero_add] at h2
    have h3 : 1 * (fct (n + 1) * 1073741824 ^ (n + 1)) ≤ 2 ^ n * (fct (n + 1) * 1073741824 ^ (n + 1)) := Nat.mul_le_mul_right _ (Nat.one_le_two_pow)
    omega
def SetP (c : Nat) (L : List Int) (w : World) (v : Value) : Prop := ∃ p n cc, v = .agg #[.int .i64 (c : Int), .slice p n cc] ∧ SmO w v c L
theorem mod4 (n : Nat) : ∃ m : Nat, (n : Int).tmod 4 = (m : Nat) ∧ m < 4 := ⟨n % 4, by rw [show (4 : Int) = ((4 : Nat) : Int) from rfl, ← Int.ofNat_tmod], by omega⟩
set_option maxHeartbeats 16000000 in
theorem blocks_w {w : World} {vh vg : Value} {hs gs : List Int} (n k d e : Nat) (hg : Glob w)
    (hd : d < 65536) (he : e < 65536) (hvh : Vh w vh hs) (h16 : In16 hs) (hvg : Vh w vg gs) (g16 : In16 gs) :
    Calls Tryz.prog 4 #[.int .u8 (n : Nat), .int .u8 (k : Nat), .int .u16 (d : Nat), .int .u16 (e : Nat), vh, vg] w fun r w' => r = .returned (.bool true) ∧ Up w w' := by
  have HK := hid (eknown_true hg)
  obtain ⟨ph, ch, rfl, hhc⟩ := hvh
  obtain ⟨pg, cg, rfl, hgc⟩ := hvg
  by_cases hC : hs.length ≤ 60
  · have d60 : decide ((60 : Int) < (hs.length : Int)) = false := decide_eq_false (by omega)
    by_cases hD : gs.length ≤ 60
    · have e60 : decide ((60 : Int) < (gs.length : Int)) = false := decide_eq_false (by omega)
      obtain ⟨n4, tn, hn4⟩ := mod4 n
      obtain ⟨k4, tk, hk4⟩ := mod4 k
      have HST := hid (fun w' (hu : Up w w') => seat_fit n4 d (by omega) hd (show Vh w' (.slice ph hs.length ch) hs from ⟨ph, ch, rfl, fun i hi => by obtain ⟨a, h1, h2⟩ := hhc i hi; exact ⟨a, h1, hu.cellEq h2⟩⟩) h16 hC)
      have HSQ := hid (fun w' (hu : Up w w') => seat_fit k4 e (by omega) he (show Vh w' (.slice pg gs.length cg) gs from ⟨pg, cg, rfl, fun i hi => by obtain ⟨a, h1, h2⟩ := hgc i hi; exact ⟨a, h1, hu.cellEq h2⟩⟩) g16 hD)
      have HN4 := hid (And.intro hn4 hk4)
      clear hg hhc hgc h16 g16 hd he hn4 hk4
      go_enter Tryz.func4, Tryz.ntmps4
      go_upto_region 6 with (first
        | (go_at_call 7; (with_reducible refine HK.out.mono ?_); rintro r w1 ⟨rfl, hu1⟩)
        | (go_at_call 8; first
            | ((with_reducible refine (HST.out _ hu1).mono ?_); rintro r w2 ⟨z2, N, L, rfl, hu2, hs2, hrt, hN⟩; have hs2' := hs2; obtain ⟨s2, base2, rfl, hO2, -⟩ := hs2'; obtain ⟨p2, n2, c2, rfl⟩ := OwnI.slice hO2)
            | ((with_reducible refine (HSQ.out _ (hu1.trans hu2)).mono ?_); rintro r w3 ⟨z3, K, Q, rfl, hu3, hs3, hrq, hK⟩; have hs3' := hs3; obtain ⟨s3, base3, rfl, hO3, -⟩ := hs3'; obtain ⟨p3, n3, c3, rfl⟩ := OwnI.slice hO3))
        | ((with_reducible apply stM_P); exact rfl; exact rfl; exact gBlk; exact rfl; exact rfl; exact two2 _ _ _ _ _))
      obtain ⟨N0, -, -, -⟩ := rt_spec hrt
      obtain ⟨m, rfl⟩ : ∃ m : Nat, N = (m : Int) := ⟨N.toNat, by omega⟩
      obtain ⟨K0, -, -, -⟩ := rt_spec hrq
      obtain ⟨q, rfl⟩ : ∃ q : Nat, K = (q : Int) := ⟨K.toNat, by omega⟩
      have hA13 := (Blk.new (w := w3) (b := w3.heap.size) 24 #[.int .i64 0, .slice none 0 0] rfl).old (.cells #[.int .i64 0, .slice none 0 0] 24)
      have hA14 := Blk.new (w := w3.alloc (.cells #[.int .i64 0, .slice none 0 0] 24)) (b := w3.heap.size + 1) 24 #[.int .i64 0, .slice none 0 0] (by simp)
      have hX14 := hA14.row_other (g := w3.heap.size) #[.int .i64 (m : Int), .slice p2 n2 c2] (by omega)
      refine wp_fold (fun wd => Blk wd w3.heap.size 24 #[.int .i64 (m : Int), .slice p2 n2 c2] ∧ Blk wd (w3.heap.size + 1) 24 #[.int .i64 (q : Int), .slice p3 n3 c3] ∧ Sm wd (.agg #[.int .i64 (m : Int), .slice p2 n2 c2]) m L ∧ Sm wd (.agg #[.int .i64 (q : Int), .slice p3 n3 c3]) q Q ∧ Up w3 wd)
        ⟨gBlk, gBlk, ((((hs2.up hu3).up ((Up.alloc _ _).trans (Up.alloc _ _))).setRow hA13).setRow hX14).sm, (((hs3.up ((Up.alloc _ _).trans (Up.alloc _ _))).setRow hA13).setRow hX14).sm, gUp⟩ (fun w4 hD4 => ?_)
      obtain ⟨hb13, hb14, hsp, hsq, hu4⟩ := hD4
      have hU4 := ((hu1.trans hu2).trans hu3).trans hu4
      have hmq : m + q ≤ 8 := by have := HN4.out; omega
      obtain ⟨b13, hb139⟩ : ∃ y, w3.heap.size = y := ⟨_, rfl⟩
      rw [hb139] at hb13 hb14 ⊢
      have HRT := hid (And.intro hrt hrq)
      have HGR := hid (fun w' (hu : Up w4 w') => rgrow_any (hsp.up hu) hrt hmq)
      obtain ⟨c, hc⟩ : ∃ c, m + q = c := ⟨_, rfl⟩
      rw [hc] at HGR
      have HCe := hid hc
      have hc8 : c ≤ 8 := by omega
      have HSP := hid hsp
      have HSQQ := hid hsq
      have hcc := hb14.cell 0 rfl
      clear hA13 hA14 hX14 hu1 hu2 hu3 hu4 hs2 hs3 hO2 hO3 hrt hrq hN hK hsp hsq hb139 HST HSQ HN4 N0 K0 hc hmq
      go_upto_region 8 with (first
        | ((with_reducible apply ldM_P); exact rfl; exact rfl; exact hb13; exact rfl)
        | (go_at_call 20; (with_reducible refine (HGR.out _ (Up.refl _)).mono ?_); rintro r w5 ⟨z5, rfl, hu5, l5, hs5, hF5⟩; have hs5' := hs5; obtain ⟨s5, base5, rfl, hO5, -⟩ := hs5'; obtain ⟨p5, n5, c5, rfl⟩ := OwnI.slice hO5)
        | ((with_reducible apply stM_P); exact rfl; exact rfl; exact Blk.new _ _ rfl; exact rfl; exact rfl; exact two2 _ _ _ _ _
           refine wpL_folded (fun wd => Up w5 wd ∧ Blk wd w5.heap.size 24 #[.int .i64 (c : Int), .slice p5 n5 c5] ∧ SmO wd (.agg #[.int .i64 (c : Int), .slice p5 n5 c5]) (c : Int) l5) ⟨gUp, gBlk, (hs5.up (Up.alloc _ _)).setRow (Blk.new _ _ rfl)⟩ ?_
           rintro w6 ⟨hu6, hb6, hs6⟩))
      have hU6 := hu5.trans hu6
      obtain ⟨b15, hb159⟩ : ∃ y, w5.heap.size = y := ⟨_, rfl⟩
      have HB15 := hid (show w.heap.size ≤ b15 from by rw [← hb159]; exact (hU4.trans hu5).size)
      have HL15 := hid (show w4.heap.size ≤ b15 from by rw [← hb159]; exact hu5.size)
      rw [hb159] at hb6 ⊢
      have HFS := hid (gE_all (k := q) hF5 Q)
      have hcc6 := (hb14.up hU6).cell 0 rfl
      have HB13 := hid hb13
      have HB14 := hid hb14
      have HU4 := hid hU4
      have HAT := hid (fun w' (hu : Up w4 w') i j (hi : i < q) (hj : j < q) => rat_ent (i : Nat) (j : Nat) (HSQQ.out.up hu) HRT.out.2 (show rng (q : Int) (i : Nat) (j : Nat) = true from decide_eq_true (by omega)))
      have HFit := hid (fun i j (hi : i < q) (hj : j < q) => show fit (ent q Q (i : Nat) (j : Nat)) = true from by
        obtain ⟨p, _, hpl, he⟩ := idx_nat HRT.out.2 (show rng (q : Int) i j = true from decide_eq_true (by omega))
        rw [he]; exact (rt_spec HRT.out.2).2.2.2 p hpl)
      clear hu5 hu6 hs5 hO5 hF5 hb159 hb13 hb14 hU4 hcc HGR
      go_wp2_with fail
      go_loopg [17] q (fun g ta wr => ∃ (a : Nat) (l : List Int) (pt : Option Addr) (nt ct : Nat), a ≤ q ∧ q - a ≤ g ∧ ta = .int .i64 (a : Nat) ∧ Fl (bE m L q Q a a) c l ∧ Blk wr b15 24 #[.int .i64 (c : Int), .slice pt nt ct] ∧ Sm wr (.agg #[.int .i64 (c : Int), .slice pt nt ct]) c l ∧ Up w4 wr)
      case atStart => exact ⟨0, _, _, _, _, Nat.zero_le _, by omega, rfl, HFS.out, hb6, hs6.sm, hU6⟩
      case round =>
        clear hb6 hs6 hU6 hcc6 HFS
        obtain ⟨a, l, pt, nt, ct, ha, hag, rfl, hF, hb, hs, hu⟩ := hrel
        have hcc := (HB14.out.up hu).cell 0 rfl
        by_cases hlt : a < q
        · have e1 : IntKind.i64.wrap ((a : Int) + 1) = (a : Int) + 1 := IntWalk.i64_in _ (by have := HCe.out; omega)
          go_wp2_with fail
          clear hcc
          go_loopg [18] q (fun g tb wx => ∃ (b : Nat) (l : List Int) (pt : Option Addr) (nt ct : Nat), a ≤ b ∧ b ≤ q ∧ q - b ≤ g ∧ tb = .int .i64 (b : Nat) ∧ Fl (bE m L q Q a b) c l ∧ Blk wx b15 24 #[.int .i64 (c : Int), .slice pt nt ct] ∧ Sm wx (.agg #[.int .i64 (c : Int), .slice pt nt ct]) c l ∧ Up w4 wx)
          case atStart => exact ⟨a, l, pt, nt, ct, Nat.le_refl _, ha, by omega, rfl, hF, hb, hs, hu⟩
          case round =>
            clear hF hb hs hu l pt nt ct
            obtain ⟨b, l, pt, nt, ct, hab, hbq, hbg, rfl, hF, hb, hs, hu⟩ := hrel
            have hcc := (HB14.out.up hu).cell 0 rfl
            by_cases hlb : b < q
            · have hce := HCe.out
              have e2 : IntKind.i64.wrap ((b : Int) + 1) = (b : Int) + 1 := IntWalk.i64_in _ (by omega)
              obtain ⟨ma, hma⟩ : ∃ ma, m + a = ma := ⟨_, rfl⟩
              obtain ⟨mb, hmb⟩ : ∃ mb, m + b = mb := ⟨_, rfl⟩
              have e3 : IntKind.i64.wrap ((m : Int) + (a : Int)) = (ma : Nat) := by rw [show (m : Int) + (a : Int) = (ma : Int) by omega]; exact IntWalk.i64_in _ (by omega)
              have e4 : IntKind.i64.wrap ((m : Int) + (b : Int)) = (mb : Nat) := by rw [show (m : Int) + (b : Int) = (mb : Int) by omega]; exact IntWalk.i64_in _ (by omega)
              have hfx := HFit.out a b (by omega) hlb
              have hF2 := bE_next hF hce.symm hab hlb hfx
              have hst : stC (c : Int) l ma mb (ent q Q (a : Nat) (b : Nat)) = 0 := by
                unfold stC
                rw [hF.1, show rng (c : Int) (ma : Nat) (mb : Nat) = true from decide_eq_true (by omega), hfx]; rfl
              have hI : I64 (ent q Q (a : Nat) (b : Nat)) := by
                have := of_decide_eq_true hfx
                unfold I64; omega
              rw [hma, hmb] at hF2
              have HA2 := hid (fun w' (hu' : Up w4 w') => HAT.out w' hu' a b (by omega) (by omega))
              obtain ⟨x, hx⟩ : ∃ y, ent q Q (a : Nat) (b : Nat) = y := ⟨_, rfl⟩
              rw [hx] at hF2 hst hI HA2
              obtain ⟨l2, hl2⟩ : ∃ y, l.set (idx (c : Int) (ma : Nat) (mb : Nat)).toNat x = y := ⟨_, rfl⟩
              rw [hl2] at hF2
              have HSE := hid (fun w' (h : Sm w' (.agg #[.int .i64 (c : Int), .slice pt nt ct]) c l) => (rset_any (ma : Int) (mb : Int) x h hI).mono (R' := fun e w'' => Up w' w'' ∧ ∃ v, e = .returned v ∧ (fun v w'' => ∃ z, v = .tuple #[z, .int .i64 0] ∧ SetP c l2 w'' z) v w'') (fun _ _ h => by
                obtain ⟨z, e1, h2, h3⟩ := h
                rw [hst] at e1
                rw [show stN (c : Int) l ma mb x = c from by unfold stN; rw [if_pos hst], show stL (c : Int) l ma mb x = l2 from by unfold stL; rw [if_pos hst]; exact hl2] at h3
                have h4 := h3
                obtain ⟨s', base', e5, hO', -⟩ := h4
                obtain ⟨p', n', c', rfl⟩ := OwnI.slice hO'
                exact ⟨h2, _, e1, z, rfl, p', n', c', e5, h3⟩))
              have HF2 := hid hF2
              have hU9 := HU4.out.trans hu
              clear hF hfx hF2 hst hI hma hmb hx hl2 hce
              go_wp2_with fail
              clear hcc
              have HBb := hid (HB13.out.up hu)
              have HBc := hid (HB14.out.up hu)
              have hb13 := HBb.out
              have hb14 := HBc.out
              refine opU (S := (fun wq => Blk wq b15 24 #[.int .i64 (c : Int), .slice pt nt ct] ∧ Blk wq b13 24 #[.int .i64 (m : Int), .slice p2 n2 c2] ∧ Blk wq (b13 + 1) 24 #[.int .i64 (q : Int), .slice p3 n3 c3] ∧ Sm wq (.agg #[.int .i64 (c : Int), .slice pt nt ct]) c l ∧ Up w4 wq ∧ Below w.heap.size w wq)) (req := (fun j => j != 17)) (fun _ _ h hu => ⟨(h.1).up hu, (h.2.1).up hu, (h.2.2.1).up hu, (h.2.2.2.1).up hu, (h.2.2.2.2.1).trans hu, below_up (h.2.2.2.2.2) hu⟩) ⟨gBlk, gBlk, gBlk, (by assumption), (by first | exact Up.refl _ | assumption), gUp⟩ (fun wS hSS hSu => ?_)
              have ⟨hS1, hS2, hS3, hS4, hS5, hSB⟩ := hSS
              refine tkT 0 (some 62) rfl hSu hSS ?_ (hy := fun w' hSw => run_ldM rfl rfl hSw.1 rfl)
              refine tkP 1 (some 63) hSu ?_
              refine tkT 2 (some 64) rfl hSu hSS ?_ (hy := fun w' hSw => by (have hc9 := hSw.2.1.cell 0 rfl; go_simp; exact rfl))
              refine tkP 3 (some 65) hSu ?_
              refine tkP 4 (some 66) hSu ?_
              refine tkP 5 (some 67) hSu ?_
              refine tkT 6 (some 68) rfl hSu hSS ?_ (hy := fun w' hSw => by (have hc9 := hSw.2.1.cell 0 rfl; go_simp; exact rfl))
              refine tkP 7 (some 69) hSu ?_
              refine tkP 8 (some 70) hSu ?_
              refine tkT 9 (some 71) rfl hSu hSS ?_ (hy := fun w' hSw => run_ldM rfl rfl hSw.2.2.1 rfl)
              refine tkP 10 (some 72) hSu ?_
              refine tkP 11 (some 73) hSu ?_
              refine tkC 12 (some 74) rfl hSu hSS ?_ (hy := fun w' hSw => (HA2.out _ hSw.2.2.2.2.1))
              refine wpAnyU_callE (i := 13) (d := (some 75)) rfl rfl (by kernel_rfl) (by rfl) hSu.out (fun w' => by go_simp) (fun w' hw' => (HSE.out w' (hSS.2.2.2.1.up hw'))) fun vT wT hwT hRT => ?_
              try simp only [Act.put, pu1, pu2, pu3]
              obtain ⟨zT, rfl, pu, nu, cu, rfl, hsu⟩ := hRT
              refine tkP 14 (some 61) hSu ?_
              refine tkP 15 (some 76) hSu ?_
              refine tkP 16 (some 77) hSu ?_
              refine wpAnyU_one (i := 17) rfl (by kernel_rfl) (by rfl) fun wX hwX => ?_
              refine wp_stM rfl rfl rfl rfl ((hSS.1.up hwT).up hwX) rfl rfl (two2 _ _ _ _ _) ?_
              refine ⟨fun h => by simp at h, ?_⟩
              try simp only [Act.put]
              refine wpAnyU_done (by kernel_rfl) (fun wF huE => ?_) _
              have gB := (((hSS.1.up hwT).up hwX).setRow #[.int .i64 (c : Int), .slice pu nu cu]).up huE
              have gS := (((hsu.up hwX).setRow (D := #[.int .i64 (c : Int), .slice pu nu cu]) ((hSS.1.up hwT).up hwX)).up huE).sm
              have gU := Up.trans (below_setRow (((hSS.2.2.2.2.1).trans hwT).trans hwX) HL15.out #[.int .i64 (c : Int), .slice pu nu cu]) huE
              clear hS1 hS2 hS3 hS4 hS5 hSB hSS huE hwT hwX hsu hb hs hu hb13 hb14 hU9
              go_wp2_with fail
              go_roundg (q - (b + 1))
              case measure => omega
              case rel => exact ⟨b + 1, _, _, _, _, by omega, hlb, Nat.le_refl _, rfl, HF2.out, gB, gS, gU⟩
            · obtain rfl : b = q := by omega
              have HR := hid (bE_row hF HCe.out.symm)
              clear hF
              go_wp2_with fail
              go_roundg (b - (a + 1))
              case measure => omega
              case rel => exact ⟨a + 1, l, _, _, _, hlt, Nat.le_refl _, rfl, HR.out, hb, hs, hu⟩
        · obtain rfl : a = q := by omega
          obtain ⟨t1, t2, t3⟩ := blocks hF HCe.out.symm HRT.out.1 HRT.out.2
          have HDT := hid (fun w' (hu' : Up wr w') => t1 ▸ t2 ▸ det_any (hs.up hu'))
          have HF3 := hid (fun w' (hu' : Up wr w') => t3 ▸ definite_any (hs.up hu'))
          have HD1 := hid (fun w' (hu' : Up w4 w') => rdet_any (HSP.out.up hu') HRT.out.1)
          have HD2 := hid (fun w' (hu' : Up w4 w') => rdet_any (HSQQ.out.up hu') HRT.out.2)
          have HF1 := hid (fun w' (hu' : Up w4 w') => rDefinite_any (HSP.out.up hu'))
          have HF2 := hid (fun w' (hu' : Up w4 w') => rDefinite_any (HSQQ.out.up hu'))
          have bP := detV_bp HRT.out.1
          have bQ := detV_bp HRT.out.2
          have bPQ := mul_bp bP bQ
          have HMu := hid (fun w va vb (ha : Big w va (det m (AM m L))) (hb : Big w vb (det a (AM a Q))) => mul_big ha hb (nl_bp (k := 5) (by omega) bP) (nl_bp (k := 5) (by omega) bQ))
          have HHD := hid (fun w u (h : Big w u (det m (AM m L) * det a (AM a Q))) => help_wide (few_inR (k := 5 + 5) (by omega) bPQ) h (nl_bp (k := 5 + 5) (by omega) bPQ))
          obtain ⟨DP, hDP⟩ : ∃ D, det m (AM m L) = D := ⟨_, rfl⟩
          obtain ⟨DQ, hDQ⟩ : ∃ D, det a (AM a Q) = D := ⟨_, rfl⟩
          obtain ⟨FP, hFP⟩ : ∃ F, dfV m L = F := ⟨_, rfl⟩
          obtain ⟨FQ, hFQ⟩ : ∃ F, dfV a Q = F := ⟨_, rfl⟩
          rw [hDP, hDQ] at HDT HHD HMu
          rw [hDP] at HD1
          rw [hDQ] at HD2
          rw [hFP] at HF1 HF3
          rw [hFQ] at HF2 HF3
          unfold wideV at *
          clear t1 t2 t3 bP bQ bPQ hDP hDQ hFP hFQ hF hs hlt
          obtain ⟨DX, hDX⟩ : ∃ D, DP * DQ = D := ⟨_, rfl⟩
          rw [hDX] at HDT HHD HMu
          clear hDX
          go_upto_region 15 with (first
            | ((with_reducible apply ldM_P); exact rfl; exact rfl; exact hb; exact rfl)
            | (go_at_call 10; (with_reducible refine (HDT.out _ (Up.refl _)).mono ?_); rintro r w8 ⟨u8, rfl, hu8, he8⟩; obtain rfl := he8.elim (fun h => h.2) (fun h => absurd rfl h.1))
            | ((with_reducible apply st_rowP infoW); exact rfl; exact rfl; exact row_newz _ rfl
               refine wpL_folded (fun wd => Up w8 wd ∧ Row wd w8.heap.size 33 16 (limb (enc DX))) ⟨gUp, gRow⟩ ?_
               rintro w9 ⟨hu9, hr9⟩))
          obtain ⟨b19, hb199⟩ : ∃ y, w8.heap.size = y := ⟨_, rfl⟩
          rw [hb199] at hr9 ⊢
          have gX := hu8.trans hu9
          have gU := hu.trans gX
          have gb15 := hb.up gX
          have gb13 := HB13.out.up gU
          have gb14 := HB14.out.up gU
          have gW := HU4.out.trans gU
          clear hu8 hu9 he8 hb hu hcc hb199
          try simp only [Act.put]
          cases FP with
          | true =>
            rw [Bool.true_and] at HF3
            have dF : (FQ == FQ) = true := by simp
            refine wp_region_sg (n := 105) 23 [83, 84, 85, 86, 87, 88, 89, 90, 91, 92, 93, 94, 95, 96, 97, 98, 99, 100, 101, 102, 103, 104, 12] [SG.is (.nilIface), SG.is (.bool true), SG.tt true, SG.is (.agg (cells 16 (limb (enc DX)))), SG.is (.agg #[.int .i64 (m : Int), .slice p2 n2 c2]), SG.of (fun v w1 => Big w1 v DP) (fun _ _ _ h hu => h.up hu), SG.is (.agg #[.int .i64 (a : Int), .slice p3 n3 c3]), SG.of (fun v w1 => Big w1 v DQ) (fun _ _ _ h hu => h.up hu), SG.of (fun v w1 => Big w1 v DX) (fun _ _ _ h hu => h.up hu), SG.is (.bool true), SG.is (.bool true), SG.tt true, SG.is (.agg #[.int .i64 (c : Int), .slice pt nt ct]), SG.is (.bool FQ), SG.is (.agg #[.int .i64 (m : Int), .slice p2 n2 c2]), SG.is (.bool true), SG.tt true, SG.is (.agg #[.int .i64 (a : Int), .slice p3 n3 c3]), SG.is (.bool FQ), SG.is (.bool FQ), SG.is (.bool true), SG.is (.bool true), SG.is (.bool true)] (fun wq => Row wq b19 33 16 (limb (enc DX)) ∧ Blk wq b13 24 #[.int .i64 (m : Int), .slice p2 n2 c2] ∧ Blk wq (b13 + 1) 24 #[.int .i64 (a : Int), .slice p3 n3 c3] ∧ Blk wq b15 24 #[.int .i64 (c : Int), .slice pt nt ct] ∧ Up w9 wq ∧ Below w.heap.size w wq) (by kernel_rfl) (by rfl) (by kernel_rfl) (by kernel_rfl) (fun _ _ h hu => ⟨(h.1).up hu, (h.2.1).up hu, (h.2.2.1).up hu, (h.2.2.2.1).up hu, (h.2.2.2.2.1).trans hu, below_up (h.2.2.2.2.2) hu⟩) ⟨(by assumption), (by first | assumption | exact gBlk), (by first | assumption | exact gBlk), (by first | assumption | exact gBlk), (by first | exact Up.refl _ | assumption), gUp⟩ (fun ev w9 hS9 i o hne hi hwt hev => ?_) (fun gR wE hq hSE huE => ?_)
            · have ⟨hS1, hS2, hS3, hS4, hS5, hSB⟩ := hS9
              have hcC := hev.const
              have hcF := hev.func
              have hcG := hev.global
              rcases i with _ | _ | _ | _ | _ | _ | _ | _ | _ | _ | _ | _ | _ | _ | _ | _ | _ | _ | _ | _ | _ | _ | _ | i
              · obtain rfl := Option.some.inj (show some _ = some o from hi)
                have e20 := hev.other 20 (by kernel_rfl)
                simp [Act.eval] at e20
                exact leavesR_value (u := .nilIface) (by first | (go_simp; done) | (go_simp; exact rfl)) rfl
              · obtain rfl := Option.some.inj (show some _ = some o from hi)
                have e83 : ev (.tmp 83) = (.nilIface) := hev.dep 0 83 (by kernel_rfl)
                exact leavesR_value (u := .bool true) (by first | (go_simp; done) | (go_simp; exact rfl)) rfl
              · obtain rfl := Option.some.inj (show some _ = some o from hi)
                have e84 : ev (.tmp 84) = (.bool true) := hev.dep 1 84 (by kernel_rfl)
                exact leavesR_value (u := .bool true) (by first | (go_simp; done) | (go_simp; exact rfl)) rfl
              · obtain rfl := Option.some.inj (show some _ = some o from hi)
                have e19 := hev.other 19 (by kernel_rfl)
                simp [Act.eval] at e19
                exact leavesR_value (run_ldW rfl (by go_simp) (row_range hS1)) rfl
              · obtain rfl := Option.some.inj (show some _ = some o from hi)
                have e13 := hev.other 13 (by kernel_rfl)
                simp [Act.eval] at e13
                exact leavesR_value (run_ldME rfl (by go_simp) hS2 rfl) rfl
              · obtain rfl := Option.some.inj (show some _ = some o from hi)
                have e87 : ev (.tmp 87) = (.agg #[.int .i64 (m : Int), .slice p2 n2 c2]) := hev.dep 4 87 (by kernel_rfl)
                refine leavesR_call ?_ (HD1.out _ (gU.trans hS5))
                go_simp
              · obtain rfl := Option.some.inj (show some _ = some o from hi)
                have e14 := hev.other 14 (by kernel_rfl)
                simp [Act.eval] at e14
                exact leavesR_value (run_ldME rfl (by go_simp) hS3 rfl) rfl
              · obtain rfl := Option.some.inj (show some _ = some o from hi)
                have e89 : ev (.tmp 89) = (.agg #[.int .i64 (a : Int), .slice p3 n3 c3]) := hev.dep 6 89 (by kernel_rfl)
                refine leavesR_call ?_ (HD2.out _ (gU.trans hS5))
                go_simp
              · obtain rfl := Option.some.inj (show some _ = some o from hi)
                have e88 : (fun v w1 => Big w1 v DP) (ev (.tmp 88)) w9 := hev.dep 5 88 (by kernel_rfl)
                dsimp only at e88
                obtain ⟨v88, hv88⟩ : ∃ v, ev (.tmp 88) = v := ⟨_, rfl⟩
                rw [hv88] at e88
                have e90 : (fun v w1 => Big w1 v DQ) (ev (.tmp 90)) w9 := hev.dep 7 90 (by kernel_rfl)
                dsimp only at e90
                obtain ⟨v90, hv90⟩ : ∃ v, ev (.tmp 90) = v := ⟨_, rfl⟩
                rw [hv90] at e90
                refine leavesR_call ?_ (HMu.out _ _ _ e88 e90)
                go_simp
              · obtain rfl := Option.some.inj (show some _ = some o from hi)
                have e86 : ev (.tmp 86) = (.agg (cells 16 (limb (enc DX)))) := hev.dep 3 86 (by kernel_rfl)
                have e91 : (fun v w1 => Big w1 v DX) (ev (.tmp 91)) w9 := hev.dep 8 91 (by kernel_rfl)
                dsimp only at e91
                obtain ⟨v91, hv91⟩ : ∃ v, ev (.tmp 91) = v := ⟨_, rfl⟩
                rw [hv91] at e91
                refine leavesR_call ?_ ((HHD.out _ _ e91).mono fun _ _ h => ⟨h.2, _, h.1, rfl⟩)
                go_simp
              · obtain rfl := Option.some.inj (show some _ = some o from hi)
                have e85 : ev (.tmp 85) = (.bool true) := hev.dep 2 85 (by kernel_rfl)
                have e92 : ev (.tmp 92) = (.bool true) := hev.dep 9 92 (by kernel_rfl)
                exact leavesR_value (u := .bool true) (by first | (go_simp; done) | (go_simp; exact rfl)) rfl
              · obtain rfl := Option.some.inj (show some _ = some o from hi)
                have e93 : ev (.tmp 93) = (.bool true) := hev.dep 10 93 (by kernel_rfl)
                exact leavesR_value (u := .bool true) (by first | (go_simp; done) | (go_simp; exact rfl)) rfl
              · obtain rfl := Option.some.inj (show some _ = some o from hi)
                have e15 := hev.other 15 (by kernel_rfl)
                simp [Act.eval] at e15
                exact leavesR_value (run_ldME rfl (by go_simp) hS4 rfl) rfl
              · obtain rfl := Option.some.inj (show some _ = some o from hi)
                have e95 : ev (.tmp 95) = (.agg #[.int .i64 (c : Int), .slice pt nt ct]) := hev.dep 12 95 (by kernel_rfl)
                refine leavesR_call ?_ ((HF3.out _ (gX.trans hS5)).mono fun _ _ h => ⟨h.2, _, h.1, rfl⟩)
                go_simp
              · obtain rfl := Option.some.inj (show some _ = some o from hi)
                have e13 := hev.other 13 (by kernel_rfl)
                simp [Act.eval] at e13
                exact leavesR_value (run_ldME rfl (by go_simp) hS2 rfl) rfl
              · obtain rfl := Option.some.inj (show some _ = some o from hi)
                have e97 : ev (.tmp 97) = (.agg #[.int .i64 (m : Int), .slice p2 n2 c2]) := hev.dep 14 97 (by kernel_rfl)
                refine leavesR_call ?_ ((HF1.out _ (gU.trans hS5)).mono fun _ _ h => ⟨h.2, _, h.1, rfl⟩)
                go_simp
              · obtain rfl := Option.some.inj (show some _ = some o from hi)
                have e98 : ev (.tmp 98) = (.bool true) := hev.dep 15 98 (by kernel_rfl)
                exact leavesR_value (u := .bool true) (by first | (go_simp; done) | (go_simp; exact rfl)) rfl
              · obtain rfl := Option.some.inj (show some _ = some o from hi)
                have e14 := hev.other 14 (by kernel_rfl)
                simp [Act.eval] at e14
                exact leavesR_value (run_ldME rfl (by go_simp) hS3 rfl) rfl
              · obtain rfl := Option.some.inj (show some _ = some o from hi)
                have e100 : ev (.tmp 100) = (.agg #[.int .i64 (a : Int), .slice p3 n3 c3]) := hev.dep 17 100 (by kernel_rfl)
                refine leavesR_call ?_ ((HF2.out _ (gU.trans hS5)).mono fun _ _ h => ⟨h.2, _, h.1, rfl⟩)
                go_simp
              · obtain rfl := Option.some.inj (show some _ = some o from hi)
                have e99 : ev (.tmp 99) = (.bool true) := hev.dep 16 99 (by kernel_rfl)
                have e101 : ev (.tmp 101) = (.bool FQ) := hev.dep 18 101 (by kernel_rfl)
                exact leavesR_value (u := .bool FQ) (by first | (go_simp; done) | (go_simp; exact rfl)) rfl
              · obtain rfl := Option.some.inj (show some _ = some o from hi)
                have e96 : ev (.tmp 96) = (.bool FQ) := hev.dep 13 96 (by kernel_rfl)
                have e102 : ev (.tmp 102) = (.bool FQ) := hev.dep 19 102 (by kernel_rfl)
                exact leavesR_value (u := .bool true) (by first | (go_simp; done) | (go_simp; exact rfl)) rfl
              · obtain rfl := Option.some.inj (show some _ = some o from hi)
                have e94 : ev (.tmp 94) = (.bool true) := hev.dep 11 94 (by kernel_rfl)
                have e103 : ev (.tmp 103) = (.bool true) := hev.dep 20 103 (by kernel_rfl)
                exact leavesR_value (u := .bool true) (by first | (go_simp; done) | (go_simp; exact rfl)) rfl
              · obtain rfl := Option.some.inj (show some _ = some o from hi)
                have e104 : ev (.tmp 104) = (.bool true) := hev.dep 21 104 (by kernel_rfl)
                exact leavesR_value (u := .bool true) (by first | (go_simp; done) | (go_simp; exact rfl)) rfl
              · exact absurd (show i + 23 < 23 from (Array.getElem?_eq_some_iff.1 hi).1) (by omega)
            have ⟨hS1, hS2, hS3, hS4, hS5, hSB⟩ := hSE
            have q0 : gR 83 = (.nilIface) := hq 0 83 (by decide) (by kernel_rfl)
            have q1 : gR 84 = (.bool true) := hq 1 84 (by decide) (by kernel_rfl)
            have q2 : gR 85 = (.bool true) := hq 2 85 (by decide) (by kernel_rfl)
            have q3 : gR 86 = (.agg (cells 16 (limb (enc DX)))) := hq 3 86 (by decide) (by kernel_rfl)
            have q4 : gR 87 = (.agg #[.int .i64 (m : Int), .slice p2 n2 c2]) := hq 4 87 (by decide) (by kernel_rfl)
            have q5 : (fun v w1 => Big w1 v DP) (gR 88) wE := hq 5 88 (by decide) (by kernel_rfl)
            dsimp only at q5
            obtain ⟨v88, hv88⟩ : ∃ v, gR 88 = v := ⟨_, rfl⟩
            rw [hv88] at q5
            have q6 : gR 89 = (.agg #[.int .i64 (a : Int), .slice p3 n3 c3]) := hq 6 89 (by decide) (by kernel_rfl)
            have q7 : (fun v w1 => Big w1 v DQ) (gR 90) wE := hq 7 90 (by decide) (by kernel_rfl)
            dsimp only at q7
            obtain ⟨v90, hv90⟩ : ∃ v, gR 90 = v := ⟨_, rfl⟩
            rw [hv90] at q7
            have q8 : (fun v w1 => Big w1 v DX) (gR 91) wE := hq 8 91 (by decide) (by kernel_rfl)
            dsimp only at q8
            obtain ⟨v91, hv91⟩ : ∃ v, gR 91 = v := ⟨_, rfl⟩
            rw [hv91] at q8
            have q9 : gR 92 = (.bool true) := hq 9 92 (by decide) (by kernel_rfl)
            have q10 : gR 93 = (.bool true) := hq 10 93 (by decide) (by kernel_rfl)
            have q11 : gR 94 = (.bool true) := hq 11 94 (by decide) (by kernel_rfl)
            have q12 : gR 95 = (.agg #[.int .i64 (c : Int), .slice pt nt ct]) := hq 12 95 (by decide) (by kernel_rfl)
            have q13 : gR 96 = (.bool FQ) := hq 13 96 (by decide) (by kernel_rfl)
            have q14 : gR 97 = (.agg #[.int .i64 (m : Int), .slice p2 n2 c2]) := hq 14 97 (by decide) (by kernel_rfl)
            have q15 : gR 98 = (.bool true) := hq 15 98 (by decide) (by kernel_rfl)
            have q16 : gR 99 = (.bool true) := hq 16 99 (by decide) (by kernel_rfl)
            have q17 : gR 100 = (.agg #[.int .i64 (a : Int), .slice p3 n3 c3]) := hq 17 100 (by decide) (by kernel_rfl)
            have q18 : gR 101 = (.bool FQ) := hq 18 101 (by decide) (by kernel_rfl)
            have q19 : gR 102 = (.bool FQ) := hq 19 102 (by decide) (by kernel_rfl)
            have q20 : gR 103 = (.bool true) := hq 20 103 (by decide) (by kernel_rfl)
            have q21 : gR 104 = (.bool true) := hq 21 104 (by decide) (by kernel_rfl)
            have q22 : gR 12 = (.bool true) := hq 22 12 (by decide) (by kernel_rfl)
            refine ⟨fun _ => ?_, fun o ho => by simp at ho⟩
            simp only [putL, List.map_cons, List.map_nil, q0, q1, q2, q3, q4, hv88, q6, hv90, hv91, q9, q10, q11, q12, q13, q14, q15, q16, q17, q18, q19, q20, q21, q22, Act.put, pu1, pu2, pu3]
            clear hq hSE q0 q1 q2 q3 q4 q6 q9 q10 q11 q12 q13 q14 q15 q16 q17 q18 q19 q20 q21 q22
            clear hS1 hS2 hS3 hS4 hSB huE q5 q7 q8
            go_wp2_with fail
            go_ret
            exact ⟨rfl, HU4.out.trans (gU.trans hS5)⟩
          | false =>
            rw [Bool.false_and] at HF3
            refine wp_region_sg (n := 105) 23 [83, 84, 85, 86, 87, 88, 89, 90, 91, 92, 93, 94, 95, 96, 97, 98, 99, 100, 101, 102, 103, 104, 12] [SG.is (.nilIface), SG.is (.bool true), SG.tt true, SG.is (.agg (cells 16 (limb (enc DX)))), SG.is (.agg #[.int .i64 (m : Int), .slice p2 n2 c2]), SG.of (fun v w1 => Big w1 v DP) (fun _ _ _ h hu => h.up hu), SG.is (.agg #[.int .i64 (a : Int), .slice p3 n3 c3]), SG.of (fun v w1 => Big w1 v DQ) (fun _ _ _ h hu => h.up hu), SG.of (fun v w1 => Big w1 v DX) (fun _ _ _ h hu => h.up hu), SG.is (.bool true), SG.is (.bool true), SG.tt true, SG.is (.agg #[.int .i64 (c : Int), .slice pt nt ct]), SG.is (.bool false), SG.is (.agg #[.int .i64 (m : Int), .slice p2 n2 c2]), SG.is (.bool false), SG.tt false, SG.no, SG.no, SG.is (.bool false), SG.is (.bool true), SG.is (.bool true), SG.is (.bool true)] (fun wq => Row wq b19 33 16 (limb (enc DX)) ∧ Blk wq b13 24 #[.int .i64 (m : Int), .slice p2 n2 c2] ∧ Blk wq (b13 + 1) 24 #[.int .i64 (a : Int), .slice p3 n3 c3] ∧ Blk wq b15 24 #[.int .i64 (c : Int), .slice pt nt ct] ∧ Up w9 wq ∧ Below w.heap.size w wq) (by kernel_rfl) (by rfl) (by kernel_rfl) (by kernel_rfl) (fun _ _ h hu => ⟨(h.1).up hu, (h.2.1).up hu, (h.2.2.1).up hu, (h.2.2.2.1).up hu, (h.2.2.2.2.1).trans hu, below_up (h.2.2.2.2.2) hu⟩) ⟨(by assumption), (by first | assumption | exact gBlk), (by first | assumption | exact gBlk), (by first | assumption | exact gBlk), (by first | exact Up.refl _ | assumption), gUp⟩ (fun ev w9 hS9 i o hne hi hwt hev => ?_) (fun gR wE hq hSE huE => ?_)
            · have ⟨hS1, hS2, hS3, hS4, hS5, hSB⟩ := hS9
              have hcC := hev.const
              have hcF := hev.func
              have hcG := hev.global
              rcases i with _ | _ | _ | _ | _ | _ | _ | _ | _ | _ | _ | _ | _ | _ | _ | _ | _ | _ | _ | _ | _ | _ | _ | i
              · obtain rfl := Option.some.inj (show some _ = some o from hi)
                have e20 := hev.other 20 (by kernel_rfl)
                simp [Act.eval] at e20
                exact leavesR_value (u := .nilIface) (by first | (go_simp; done) | (go_simp; exact rfl)) rfl
              · obtain rfl := Option.some.inj (show some _ = some o from hi)
                have e83 : ev (.tmp 83) = (.nilIface) := hev.dep 0 83 (by kernel_rfl)
                exact leavesR_value (u := .bool true) (by first | (go_simp; done) | (go_simp; exact rfl)) rfl
              · obtain rfl := Option.some.inj (show some _ = some o from hi)
                have e84 : ev (.tmp 84) = (.bool true) := hev.dep 1 84 (by kernel_rfl)
                exact leavesR_value (u := .bool true) (by first | (go_simp; done) | (go_simp; exact rfl)) rfl
              · obtain rfl := Option.some.inj (show some _ = some o from hi)
                have e19 := hev.other 19 (by kernel_rfl)
                simp [Act.eval] at e19
                exact leavesR_value (run_ldW rfl (by go_simp) (row_range hS1)) rfl
              · obtain rfl := Option.some.inj (show some _ = some o from hi)
                have e13 := hev.other 13 (by kernel_rfl)
                simp [Act.eval] at e13
                exact leavesR_value (run_ldME rfl (by go_simp) hS2 rfl) rfl
              · obtain rfl := Option.some.inj (show some _ = some o from hi)
                have e87 : ev (.tmp 87) = (.agg #[.int .i64 (m : Int), .slice p2 n2 c2]) := hev.dep 4 87 (by kernel_rfl)
                refine leavesR_call ?_ (HD1.out _ (gU.trans hS5))
                go_simp
              · obtain rfl := Option.some.inj (show some _ = some o from hi)
                have e14 := hev.other 14 (by kernel_rfl)
                simp [Act.eval] at e14
                exact leavesR_value (run_ldME rfl (by go_simp) hS3 rfl) rfl
              · obtain rfl := Option.some.inj (show some _ = some o from hi)
                have e89 : ev (.tmp 89) = (.agg #[.int .i64 (a : Int), .slice p3 n3 c3]) := hev.dep 6 89 (by kernel_rfl)
                refine leavesR_call ?_ (HD2.out _ (gU.trans hS5))
                go_simp
              · obtain rfl := Option.some.inj (show some _ = some o from hi)
                have e88 : (fun v w1 => Big w1 v DP) (ev (.tmp 88)) w9 := hev.dep 5 88 (by kernel_rfl)
                dsimp only at e88
                obtain ⟨v88, hv88⟩ : ∃ v, ev (.tmp 88) = v := ⟨_, rfl⟩
                rw [hv88] at e88
                have e90 : (fun v w1 => Big w1 v DQ) (ev (.tmp 90)) w9 := hev.dep 7 90 (by kernel_rfl)
                dsimp only at e90
                obtain ⟨v90, hv90⟩ : ∃ v, ev (.tmp 90) = v := ⟨_, rfl⟩
                rw [hv90] at e90
                refine leavesR_call ?_ (HMu.out _ _ _ e88 e90)
                go_simp
              · obtain rfl := Option.some.inj (show some _ = some o from hi)
                have e86 : ev (.tmp 86) = (.agg (cells 16 (limb (enc DX)))) := hev.dep 3 86 (by kernel_rfl)
                have e91 : (fun v w1 => Big w1 v DX) (ev (.tmp 91)) w9 := hev.dep 8 91 (by kernel_rfl)
                dsimp only at e91
                obtain ⟨v91, hv91⟩ : ∃ v, ev (.tmp 91) = v := ⟨_, rfl⟩
                rw [hv91] at e91
                refine leavesR_call ?_ ((HHD.out _ _ e91).mono fun _ _ h => ⟨h.2, _, h.1, rfl⟩)
                go_simp
              · obtain rfl := Option.some.inj (show some _ = some o from hi)
                have e85 : ev (.tmp 85) = (.bool true) := hev.dep 2 85 (by kernel_rfl)
                have e92 : ev (.tmp 92) = (.bool true) := hev.dep 9 92 (by kernel_rfl)
                exact leavesR_value (u := .bool true) (by first | (go_simp; done) | (go_simp; exact rfl)) rfl
              · obtain rfl := Option.some.inj (show some _ = some o from hi)
                have e93 : ev (.tmp 93) = (.bool true) := hev.dep 10 93 (by kernel_rfl)
                exact leavesR_value (u := .bool true) (by first | (go_simp; done) | (go_simp; exact rfl)) rfl
              · obtain rfl := Option.some.inj (show some _ = some o from hi)
                have e15 := hev.other 15 (by kernel_rfl)
                simp [Act.eval] at e15
                exact leavesR_value (run_ldME rfl (by go_simp) hS4 rfl) rfl
              · obtain rfl := Option.some.inj (show some _ = some o from hi)
                have e95 : ev (.tmp 95) = (.agg #[.int .i64 (c : Int), .slice pt nt ct]) := hev.dep 12 95 (by kernel_rfl)
                refine leavesR_call ?_ ((HF3.out _ (gX.trans hS5)).mono fun _ _ h => ⟨h.2, _, h.1, rfl⟩)
                go_simp
              · obtain rfl := Option.some.inj (show some _ = some o from hi)
                have e13 := hev.other 13 (by kernel_rfl)
                simp [Act.eval] at e13
                exact leavesR_value (run_ldME rfl (by go_simp) hS2 rfl) rfl
              · obtain rfl := Option.some.inj (show some _ = some o from hi)
                have e97 : ev (.tmp 97) = (.agg #[.int .i64 (m : Int), .slice p2 n2 c2]) := hev.dep 14 97 (by kernel_rfl)
                refine leavesR_call ?_ ((HF1.out _ (gU.trans hS5)).mono fun _ _ h => ⟨h.2, _, h.1, rfl⟩)
                go_simp
              · obtain rfl := Option.some.inj (show some _ = some o from hi)
                have e98 : ev (.tmp 98) = (.bool false) := hev.dep 15 98 (by kernel_rfl)
                exact leavesR_value (u := .bool false) (by first | (go_simp; done) | (go_simp; exact rfl)) rfl
              · exact absurd hwt (Bool.eq_false_iff.1 (by kernel_rfl))
              · exact absurd hwt (Bool.eq_false_iff.1 (by kernel_rfl))
              · obtain rfl := Option.some.inj (show some _ = some o from hi)
                have e99 : ev (.tmp 99) = (.bool false) := hev.dep 16 99 (by kernel_rfl)
                have e101 : ev (.tmp 101) = (undef) := hev.dep 18 101 (by kernel_rfl)
                exact leavesR_value (u := .bool false) (by first | (go_simp; done) | (go_simp; exact rfl)) rfl
              · obtain rfl := Option.some.inj (show some _ = some o from hi)
                have e96 : ev (.tmp 96) = (.bool false) := hev.dep 13 96 (by kernel_rfl)
                have e102 : ev (.tmp 102) = (.bool false) := hev.dep 19 102 (by kernel_rfl)
                exact leavesR_value (u := .bool true) (by first | (go_simp; done) | (go_simp; exact rfl)) rfl
              · obtain rfl := Option.some.inj (show some _ = some o from hi)
                have e94 : ev (.tmp 94) = (.bool true) := hev.dep 11 94 (by kernel_rfl)
                have e103 : ev (.tmp 103) = (.bool true) := hev.dep 20 103 (by kernel_rfl)
                exact leavesR_value (u := .bool true) (by first | (go_simp; done) | (go_simp; exact rfl)) rfl
              · obtain rfl := Option.some.inj (show some _ = some o from hi)
                have e104 : ev (.tmp 104) = (.bool true) := hev.dep 21 104 (by kernel_rfl)
                exact leavesR_value (u := .bool true) (by first | (go_simp; done) | (go_simp; exact rfl)) rfl
              · exact absurd (show i + 23 < 23 from (Array.getElem?_eq_some_iff.1 hi).1) (by omega)
            have ⟨hS1, hS2, hS3, hS4, hS5, hSB⟩ := hSE
            have q0 : gR 83 = (.nilIface) := hq 0 83 (by decide) (by kernel_rfl)
            have q1 : gR 84 = (.bool true) := hq 1 84 (by decide) (by kernel_rfl)
            have q2 : gR 85 = (.bool true) := hq 2 85 (by decide) (by kernel_rfl)
            have q3 : gR 86 = (.agg (cells 16 (limb (enc DX)))) := hq 3 86 (by decide) (by kernel_rfl)
            have q4 : gR 87 = (.agg #[.int .i64 (m : Int), .slice p2 n2 c2]) := hq 4 87 (by decide) (by kernel_rfl)
            have q5 : (fun v w1 => Big w1 v DP) (gR 88) wE := hq 5 88 (by decide) (by kernel_rfl)
            dsimp only at q5
            obtain ⟨v88, hv88⟩ : ∃ v, gR 88 = v := ⟨_, rfl⟩
            rw [hv88] at q5
            have q6 : gR 89 = (.agg #[.int .i64 (a : Int), .slice p3 n3 c3]) := hq 6 89 (by decide) (by kernel_rfl)
            have q7 : (fun v w1 => Big w1 v DQ) (gR 90) wE := hq 7 90 (by decide) (by kernel_rfl)
            dsimp only at q7
            obtain ⟨v90, hv90⟩ : ∃ v, gR 90 = v := ⟨_, rfl⟩
            rw [hv90] at q7
            have q8 : (fun v w1 => Big w1 v DX) (gR 91) wE := hq 8 91 (by decide) (by kernel_rfl)
            dsimp only at q8
            obtain ⟨v91, hv91⟩ : ∃ v, gR 91 = v := ⟨_, rfl⟩
            rw [hv91] at q8
            have q9 : gR 92 = (.bool true) := hq 9 92 (by decide) (by kernel_rfl)
            have q10 : gR 93 = (.bool true) := hq 10 93 (by decide) (by kernel_rfl)
            have q11 : gR 94 = (.bool true) := hq 11 94 (by decide) (by kernel_rfl)
            have q12 : gR 95 = (.agg #[.int .i64 (c : Int), .slice pt nt ct]) := hq 12 95 (by decide) (by kernel_rfl)
            have q13 : gR 96 = (.bool false) := hq 13 96 (by decide) (by kernel_rfl)
            have q14 : gR 97 = (.agg #[.int .i64 (m : Int), .slice p2 n2 c2]) := hq 14 97 (by decide) (by kernel_rfl)
            have q15 : gR 98 = (.bool false) := hq 15 98 (by decide) (by kernel_rfl)
            have q16 : gR 99 = (.bool false) := hq 16 99 (by decide) (by kernel_rfl)
            have q17 : gR 100 = (undef) := hq 17 100 (by decide) (by kernel_rfl)
            have q18 : gR 101 = (undef) := hq 18 101 (by decide) (by kernel_rfl)
            have q19 : gR 102 = (.bool false) := hq 19 102 (by decide) (by kernel_rfl)
            have q20 : gR 103 = (.bool true) := hq 20 103 (by decide) (by kernel_rfl)
            have q21 : gR 104 = (.bool true) := hq 21 104 (by decide) (by kernel_rfl)
            have q22 : gR 12 = (.bool true) := hq 22 12 (by decide) (by kernel_rfl)
            refine ⟨fun _ => ?_, fun o ho => by simp at ho⟩
            simp only [putL, List.map_cons, List.map_nil, q0, q1, q2, q3, q4, hv88, q6, hv90, hv91, q9, q10, q11, q12, q13, q14, q15, q16, q17, q18, q19, q20, q21, q22, Act.put, pu1, pu2, pu3]
            clear hq hSE q0 q1 q2 q3 q4 q6 q9 q10 q11 q12 q13 q14 q15 q16 q17 q18 q19 q20 q21 q22
            clear hS1 hS2 hS3 hS4 hSB huE q5 q7 q8
            go_wp2_with fail
            go_ret
            exact ⟨rfl, HU4.out.trans (gU.trans hS5)⟩
    · have e60 : decide ((60 : Int) < (gs.length : Int)) = true := decide_eq_true (by omega)
      clear hhc hgc h16 g16 hg hd he
      go_enter Tryz.func4, Tryz.ntmps4
      go_wp2_with (first
        | (go_at_call 7; (with_reducible refine HK.out.mono ?_); rintro r w1 ⟨rfl, hu1⟩))
      go_ret
      exact ⟨rfl, hu1⟩
  · have d60 : decide ((60 : Int) < (hs.length : Int)) = true := decide_eq_true (by omega)
    clear hhc hgc h16 g16 hg hd he
    go_enter Tryz.func4, Tryz.ntmps4
    go_wp2_with (first
      | (go_at_call 7; (with_reducible refine HK.out.mono ?_); rintro r w1 ⟨rfl, hu1⟩))
    go_ret
    exact ⟨rfl, hu1⟩
theorem blocks_row {w : World} {a0 a1 a2 a3 : Int} {p4 p5 : Option Addr} {len4 cap4 len5 cap5 : Nat} {z4 z5 : List Int} (hg : Glob w) (w0 : (Lit.int .u8 a0).wf = true) (w1 : (Lit.int .u8 a1).wf = true) (w2 : (Lit.int .u16 a2).wf = true) (w3 : (Lit.int .u16 a3).wf = true)
    (w4 : IsRowX .i16 w p4 len4 cap4 z4) (w5 : IsRowX .i16 w p5 len5 cap5 z5) :
    Calls Tryz.prog 4 #[.int .u8 a0, .int .u8 a1, .int .u16 a2, .int .u16 a3, .slice p4 len4 cap4, .slice p5 len5 cap5] w fun r w' => r = .returned (.bool true) ∧ Up w w' := by
  obtain ⟨n, rfl, -⟩ := wf_nat (m := 255) w0 IntKind.min_u8 IntKind.max_u8
  obtain ⟨k, rfl, -⟩ := wf_nat (m := 255) w1 IntKind.min_u8 IntKind.max_u8
  obtain ⟨d, rfl, hd⟩ := wf_nat (m := 65535) w2 IntKind.min_u16 IntKind.max_u16
  obtain ⟨e, rfl, he⟩ := wf_nat (m := 65535) w3 IntKind.min_u16 IntKind.max_u16
  exact blocks_w n k d e hg hd he (vh_row w4).1 (vh_row w4).2 (vh_row w5).1 (vh_row w5).2
end Go.Proofs.YtnpaodlhhcnbgaaGreatDoor
