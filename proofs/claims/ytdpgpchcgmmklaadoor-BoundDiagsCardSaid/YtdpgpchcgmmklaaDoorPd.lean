import Derived.Test.YtdpgpchcgmmklaaDoorPc
import Derived.Laws.MakeOwn
import Derived.DataShut
import Derived.Test.YtdpgpchcgmmklaaDoorRows
import Derived.Test.YtdpgpchcgmmklaaDoorTie
import Derived.ChangeSame
import Derived.ChangeVars
import Derived.JoinedOf
import Derived.RowKit
import Derived.RowKitTokens
import Derived.LaidLaws
import Derived.LaidHandle
import Derived.Stop.Joined
import Derived.ChangeMaps5
import Derived.SevenTiedAt
namespace Go.Proofs.YtdpgpchcgmmklaaDoor
open Go Go.RowKit
set_option maxRecDepth 100000
def Rx (w : World) (x : Nat) (v : Value) (L : List (List Int)) : Prop :=
 (L = [] /\ ∃ p c, v = .slice p 0 c) \/ ∃ g cap C, v = .slice (some ⟨g, 0, none⟩) L.length cap /\ L.length <= cap /\ g ≠ x /\ Blk w g 55 C /\ ∀ i, i < L.length -> ∃ s, C[i]? = some s /\ Wv w s (L.getD i []) /\ ∀ a n c, s = .slice (some a) n c -> 0 < n -> a.block ≠ x
theorem Rx.up {w w' : World} (hu : Up w w') {x : Nat} {v : Value} {L : List (List Int)} (h : Rx w x v L) : Rx w' x v L := by
 rcases h with h | ⟨g, cap, C, h1, h2, h3, h4, h5⟩
 ·exact .inl h
 ·exact .inr ⟨g, cap, C, h1, h2, h3, h4.up hu, fun i hi => by obtain ⟨s, e1, e2, e3⟩ := h5 i hi; exact ⟨s, e1, e2.up hu, e3⟩⟩
theorem Rx.rz {w : World} {x : Nat} {v : Value} {L : List (List Int)} (h : Rx w x v L) : Rz w v L := by
 rcases h with h | ⟨g, cap, C, h1, h2, h3, h4, h5⟩
 ·exact .inl h
 ·exact .inr ⟨g, cap, C, h1, h2, h4, fun i hi => by obtain ⟨s, e1, e2, e3⟩ := h5 i hi; exact ⟨s, e1, e2⟩⟩
theorem Rx.setRow {w : World} {x : Nat} {v : Value} {L : List (List Int)} (h : Rx w x v L) (D : Array Value) : Rx (w.setRow x D) x v L := by
 rcases h with h | ⟨g, cap, C, h1, h2, h3, h4, h5⟩
 ·exact .inl h
 ·refine .inr ⟨g, cap, C, h1, h2, h3, Blk.row_other h4 D h3, fun i hi => ?_⟩
  obtain ⟨s, e1, e2, e3⟩ := h5 i hi
  refine ⟨s, e1, ?_, e3⟩
  rcases e2 with e2 | ⟨g', cap', C', hv, hc, hB, ht⟩
  ·exact .inl e2
  ·rcases Nat.eq_zero_or_pos (L.getD i []).length with h0 | h0
   ·exact .inl ⟨List.length_eq_zero_iff.1 h0, _, _, by rw [hv, h0]⟩
   ·exact .inr ⟨g', cap', C', hv, hc, Blk.row_other hB D (e3 _ _ _ hv h0), ht⟩
theorem Rz.rx {w : World} {x : Nat} {v : Value} {L : List (List Int)} (h : Rz w v L) (hx : w.heap.size <= x) : Rx w x v L := by
 rcases h with h | ⟨g, cap, C, h1, h2, h4, h5⟩
 ·exact .inl h
 ·refine .inr ⟨g, cap, C, h1, h2, Nat.ne_of_lt (Nat.lt_of_lt_of_le h4.lt hx), h4, fun i hi => ?_⟩
  obtain ⟨s, e1, e2⟩ := h5 i hi
  refine ⟨s, e1, e2, fun a n c e h0 => ?_⟩
  rcases e2 with ⟨_, p, c', e2⟩ | ⟨g', cap', C', hv, hc, hB, ht⟩
  ·rw [e] at e2; injection e2 with _ e2; omega
  ·rw [e] at hv; injection hv with e3; injection e3 with e3; rw [e3]; exact Nat.ne_of_lt (Nat.lt_of_lt_of_le hB.lt hx)
theorem OwnR.rx {w : World} {b x : Nat} {v : Value} {L : List (List Int)} (h : OwnR w b v L) (hx : x < b) : Rx w x v L := by
 rcases Nat.eq_zero_or_pos L.length with h0 | h0
 ·obtain ⟨p, c, rfl⟩ := h.slice
  exact .inl ⟨List.length_eq_zero_iff.1 h0, p, c, by rw [h0]⟩
 ·obtain ⟨g, cap, C, hv, hb, hc, hB, hE⟩ := h.open h0
  refine .inr ⟨g, cap, C, hv, hc, by omega, hB, fun i hi => ?_⟩
  obtain ⟨s, e1, e2⟩ := hE i hi
  exact ⟨s, e1, e2.1, fun a n c e h9 => by have := e2.2 a n c e h9; omega⟩
theorem Rx.slice {w : World} {x : Nat} {v : Value} {L : List (List Int)} (h : Rx w x v L) : ∃ p c, v = .slice p L.length c := h.rz.slice
set_option maxHeartbeats 16000000 in
theorem defb_any {vr : Value} {n : Nat} {V : Nat -> Nat -> Int} {w : World} (hR : Rz w vr (triE n V)) (h8 : n <= 8) (hV : ∀ i j, (V i j).natAbs <= bdM) (hs : Symm V) :
   Calls Tryd.prog 16 #[vr] w fun r w' => r = .returned (.bool (dfB n V)) /\ Up w w' := by
 have HO1 := hid (fun w => of_any 1 (by decide) (by decide) w)
 have HRX := hid (fun w' (hu : Up w w') => (hR.rx (x := w'.heap.size) (hu.size)).up hu)
 have HSb := hid (Sb.start hV hs)
 obtain ⟨pz, cz, rfl⟩ := hR.slice
 rw [triE_len] at HRX ⊢
 obtain ⟨T, hT⟩ : ∃ T, dfB n V = T := ⟨_, rfl⟩
 have HT := hid (show ((mins n 1 V).all fun x => decide (0 < x)) = T from hT)
 rw [hT]
 clear hT hR hV hs
 unfold wideV at *
 go_enter Tryd.func16, Tryd.ntmps16
 go_wp2_with (first
  | (go_at_call 25; (with_reducible refine (HO1.out _).mono ?_); rintro r w2 ⟨rfl, hu2⟩; have hsz2 := hu2.size)
  | ((with_reducible apply st_rowP infoW); exact rfl; exact rfl; exact row_newz _ rfl
     refine wpL_folded (fun wd => Up w2 wd /\ Row wd w2.heap.size 53 16 (limb (enc 1))) ⟨gUp, gRow⟩ ?_
     rintro wL ⟨hXL, hLast⟩))
 have hRX := (HRX.out _ hu2).up hXL
 have hU2 := hu2.trans hXL
 obtain ⟨bL, hbL⟩ : ∃ y, w2.heap.size = y := ⟨_, rfl⟩
 rw [hbL] at hLast hRX hsz2 ⊢
 have hInv : ∃ (k s : Nat) (q : Int) (M : Nat -> Nat -> Int), s + k = n /\ (0 < s -> Sb q k M) /\ ((mins s q M).all fun x => decide (0 < x)) = T /\ Rx wL bL (.slice pz n cz) (triE s M) /\ Row wL bL 53 16 (limb (enc q)) /\ Up w wL :=
  ⟨0, n, 1, V, by omega, fun _ => HSb.out, HT.out, hRX, hLast, hU2⟩
 clear hRX hLast hU2 hXL hu2 hbL HRX HSb HT HO1
 try simp only [Act.put]
 go_loopg [0] (n + 1) (fun g tr wr => ∃ (k s : Nat) (q : Int) (M : Nat -> Nat -> Int), s <= g /\ s + k = n /\ (0 < s -> Sb q k M) /\ ((mins s q M).all fun x => decide (0 < x)) = T /\ Rx wr bL tr (triE s M) /\ Row wr bL 53 16 (limb (enc q)) /\ Up w wr)
 case atStart =>
  obtain ⟨k, s, q, M, h1, h2⟩ := hInv
  exact ⟨k, s, q, M, by omega, h1, h2⟩
 case round =>
  clear hInv
  obtain ⟨k, s, q, M, hsg, hsk, hSb, hT, hRx, hRow, hu⟩ := hrel
  obtain ⟨pr, cr, rfl⟩ := hRx.slice
  rw [triE_len] at hRx ⊢
  rcases s with _ | s
  ·have hDn : T = true := by rw [<- hT]; rfl
   subst hDn
   clear hSb hT
   go_wp2_with fail
   go_ret
   exact ⟨rfl, hu⟩
  ·have hSb := hSb (Nat.succ_pos s)
   obtain ⟨gR, cR, CR, hv, hcR, hBR, hE⟩ := hRx.rz.open (by rw [triE_len]; omega)
   rw [triE_len] at hv hcR
   injection hv with x1 x2 x3
   subst x1 x3
   obtain ⟨sF, hsF, hWF⟩ := hE 0 (by rw [triE_len]; omega)
   rw [triE_at (by omega)] at hWF
   obtain ⟨gF, cF, CF, rfl, hcF, hBF, htF⟩ := hWF.open (by rw [triR_len]; omega)
   rw [triR_len] at hsF
   have HRng : Hid (∀ w', Blk w' gF 53 CF -> w'.rangeAt gF 0 (wc (M 0 0))) := hid (fun w' hB => by
    have h := wv_range hB htF (i := 0) (by rw [triR_len]; omega)
    rw [triR_at (by omega), Nat.zero_mul] at h
    exact h)
   have hcx := hBR.cell 0 hsF
   have HSg := hid (fun w => sign_z (hSb.inR (by omega) 0 0) w)
   unfold wideV at HSg
   rw [bmins_succ, List.all_cons] at hT
   have HRX := hid hRx
   have HSb := hid hSb
   have HT := hid hT
   clear hE hWF htF hsF x2 hcF hSb hT hRx
   obtain ⟨m0, hm0⟩ : ∃ y, M 0 0 = y := ⟨_, rfl⟩
   have HM0 := hid hm0
   rw [hm0] at HRng HSg HT
   clear hm0
   by_cases hp : 0 < m0
   ·have ds : decide (sgn m0 <= 0) = false := by unfold sgn; rw [decide_eq_false]; split <;> (try split) <;> omega
    have HT2 := hid (show ((mins s m0 (nxt q M)).all fun x => decide (0 < x)) = T from by have h := HT.out; rw [decide_eq_true hp, Bool.true_and, if_pos hp] at h; exact h)
    have hlt := hRow.lt
    go_upto_region 6 with (first
     | ((with_reducible apply ldW_P); exact rfl; exact rfl; exact HRng.out _ hBF)
     | ((with_reducible apply st_rowP infoW); exact rfl; exact rfl; exact row_newz _ rfl
        refine wpL_folded (fun wd => Up wr wd /\ Row wd wr.heap.size 53 16 (limb (enc m0))) ⟨gUp, gRow⟩ ?_
        rintro w3 ⟨hX3, hRm⟩)
     | ((with_reducible apply ld_rowP undW infoW); exact rfl; exact rfl; exact gRow)
     | (go_at_call 26; (with_reducible refine (HSg.out _).mono ?_); rintro r w7 ⟨rfl, hu7⟩))
    have hx7 := hX3.trans hu7
    have hRow7 := hRow.up hx7
    have hRm7 := hRm.up hu7
    have hRX7 := HRX.out.up hx7
    have hU7 := hu.trans hx7
    have hne : wr.heap.size ≠ bL := Nat.ne_of_gt hlt
    obtain ⟨bm, hbm⟩ : ∃ y, wr.heap.size = y := ⟨_, rfl⟩
    rw [hbm] at hRm7 hne ⊢
    have HFW := hid (fun w' (hu' : Up w7 w') => show Calls Tryd.prog 27 #[.slice (some ⟨gR, 0, none⟩) (s + 1) cr, .agg (cells 16 (limb (enc q)))] w' (fun e w'' => Up w' w'' /\ ∃ v, e = .returned v /\ (fun v w'' => ∃ b, w7.heap.size <= b /\ OwnR w'' b v (triE s (nxt q M))) v w'') from by
     have hf := fewerb_any (q := q) ((hRX7.up hu').rz) HSb.out.2.2.2 (by omega) (fun h0 => HSb.out.small (by omega)) HSb.out.2.2.1 (Int.ne_of_gt HSb.out.2.1)
     unfold wideV at hf
     refine hf.mono fun _ _ h => ?_
     obtain ⟨z, rfl, hu, b, hb, hO⟩ := h
     exact ⟨hu, z, rfl, b, Nat.le_trans hu'.size hb, hO⟩)
    clear hX3 hu7 hx7 hRow hRm hu hcx hBR hBF hbm ds
    refine opU (S := (fun wq => Up w7 wq /\ Below w.heap.size w wq)) (req := (fun j => j != 5)) (fun _ _ h hu => ⟨(h.1).trans hu, below_up (h.2) hu⟩) ⟨(by first | exact Up.refl _ | assumption), gUp⟩ (fun wS hSS hSu => ?_)
    have ⟨hS1, hSB⟩ := hSS
    refine tkP 0 (some 17) hSu ?_
    refine tkT 1 (some 18) rfl hSu hSS ?_ (hy := fun w' hSw => run_ld undW infoW _ rfl _ rfl (hRow7.up hSw.1))
    refine tkT 3 (some 20) rfl hSu hSS ?_ (hy := fun w' hSw => run_ld undW infoW _ rfl _ rfl (hRm7.up hSw.1))
    refine wpAnyU_callE (i := 2) (d := (some 19)) rfl rfl (by kernel_rfl) (by rfl) hSu.out (fun w' => by go_simp) (fun w' hw' => (HFW.out w' (hS1.trans hw'))) fun vG wG hwG hRG => ?_
    try simp only [Act.put, pu1, pu2, pu3]
    obtain ⟨bN, hbN, hON⟩ := hRG
    obtain ⟨pN, cN, rfl⟩ := hON.slice
    refine tkP 4 (some 0) hSu ?_
    refine wpAnyU_one (i := 5) rfl (by kernel_rfl) (by rfl) fun wX hwX => ?_
    refine wp_st_rowN infoW rfl _ _ rfl _ rfl rfl ((hRow7.up ((hS1.trans hwG).trans hwX))) ?_
    refine ⟨fun h => by simp at h, ?_⟩
    try simp only [Act.put, pu1, pu2, pu3]
    refine wpAnyU_done (by kernel_rfl) (fun wF huE => ?_) _
    have hUG := (hS1.trans hwG).trans hwX
    have hltb := hRow7.lt
    have gRow := ((hRow7.up hUG).setRow (limb (enc m0))).up huE
    have gO := ((((hON.up hwX).rx (show bL < bN by omega)).setRow (cells 16 (limb (enc m0))))).up huE
    have gU := Up.trans (below_setRow (hU7.trans hUG) (show w.heap.size <= bL by omega) (cells 16 (limb (enc m0)))) huE
    have gS : 0 < s -> Sb m0 (k + 1) (nxt q M) := fun h0 => by
     have h := HSb.out.next (by omega) (by rw [HM0.out]; exact hp)
     rw [HM0.out] at h
     exact h
    have HGS := hid gS
    clear hS1 hSB hSS hwG hwX huE hON hUG gS
    rw [triE_len] at gO ⊢
    go_wp2_with fail
    go_roundg s
    case measure => omega
    case rel => exact ⟨k + 1, s, m0, nxt q M, Nat.le_refl _, by omega, HGS.out, HT2.out, gO, gRow, gU⟩
   ·have ds : decide (sgn m0 <= 0) = true := by unfold sgn; rw [decide_eq_true]; split <;> (try split) <;> omega
    have hTf : T = false := by have h := HT.out; rw [decide_eq_false hp, Bool.false_and] at h; exact h.symm
    subst hTf
    go_wp2_with (first
     | ((with_reducible apply ldW_P); exact rfl; exact rfl; exact HRng.out _ hBF)
     | ((with_reducible apply st_rowP infoW); exact rfl; exact rfl; exact row_newz _ rfl
        refine wpL_folded (fun wd => Up wr wd /\ Row wd wr.heap.size 53 16 (limb (enc m0))) ⟨gUp, gRow⟩ ?_
        rintro w3 ⟨hX3, hRm⟩)
     | ((with_reducible apply ld_rowP undW infoW); exact rfl; exact rfl; exact gRow)
     | (go_at_call 26; (with_reducible refine (HSg.out _).mono ?_); rintro r w7 ⟨rfl, hu7⟩))
    go_ret
    exact ⟨rfl, hu.trans (hX3.trans hu7)⟩
theorem triR_take_succ (n : Nat) (f : Nat -> Nat -> Int) (i : Nat) {j : Nat} (h : i <= j) (hj : j < n) : (triR n f i).take (j + 1 - i) = (triR n f i).take (j - i) ++ [f i j] := by
 unfold triR
 rw [show j + 1 - i = (j - i) + 1 by omega, mk_take_succ _ (by omega), show i + (j - i) = j by omega]
set_option maxHeartbeats 8000000 in
theorem triangle_any {v : Value} {n : Nat} {l : List Int} {w : World} (hm : Sm w v n l) (hR : rt n l = true) :
   Calls Tryd.prog 18 #[v] w fun r w' => ∃ z, r = .returned z /\ Up w w' /\ ∃ b, w.heap.size <= b /\ OwnR w' b z (triE n (AM n l)) := by
 have n8 : n <= 8 := by have := (rt_spec hR).2.1; omega
 rw [show triE n (AM n l) = triE n (fun i j => ent n l i j) from triE_congr fun i j hi _ hj => AM_at hi hj]
 have HAT := hid (fun (i j : Nat) (hi : i < n) (hj : j < n) w' (hu : Up w w') => at_right (hm.up hu) hR hi hj)
 have HO := hid (fun (i j : Nat) (hi : i < n) (hj : j < n) w => of_any (ent n l i j) (ent_i64 hR hi hj).1 (ent_i64 hR hi hj).2 w)
 obtain ⟨s, rfl, ⟨p, cap, rfl, hcap, hc⟩, hN, hl, hlen⟩ := hm
 obtain ⟨wS, hwS⟩ : ∃ x, w.alloc (.cells #[.int .i64 (n : Int), .slice p l.length cap] 25) = x := ⟨_, rfl⟩
 have hB : Blk wS w.heap.size 25 #[.int .i64 (n : Int), .slice p l.length cap] := by rw [<- hwS]; exact Blk.new _ _ rfl
 have hU : Up w wS := by rw [<- hwS]; exact Up.alloc _ _
 have hc0 := hB.cell 0 rfl
 have HTR := hid (fun i (hi : i < n) => triE_take_succ n (fun i j => ent n l i j) hi)
 have HTE := hid (fun i j (hij : i <= j) (hj : j < n) => triR_take_succ n (fun i j => ent n l i j) i hij hj)
 have HRL := hid (fun i => triR_len n (fun i j => ent n l i j) i)
 have HSL := hid (triE_len n (fun i j => ent n l i j))
 obtain ⟨R, hRR⟩ : ∃ R, triR n (fun i j => ent n l i j) = R := ⟨_, rfl⟩
 obtain ⟨E, hEE⟩ : ∃ E, triE n (fun i j => ent n l i j) = E := ⟨_, rfl⟩
 rw [hRR] at HTR HTE HRL
 rw [hEE] at HTR HSL ⊢
 clear hc hl hlen hR hN hRR hEE
 unfold wideV at *
 go_enter Tryd.func18, Tryd.ntmps18
 go_wp2_with fail
 clear hwS hc0
 go_loopg [3, 11] n (fun g tr ti wr => ∃ i : Nat, i <= n /\ n - i <= g /\ ti = .int .i64 (i : Nat) /\ OwnR wr wS.heap.size tr (E.take i) /\ Up wS wr)
 case atStart => exact ⟨0, Nat.zero_le _, by omega, rfl, by rw [List.take_zero]; exact OwnR.nil _ _, Up.refl _⟩
 case round =>
  obtain ⟨i, hi, hig, rfl, hO, hu⟩ := hrel
  have hc0 := (hB.up hu).cell 0 rfl
  by_cases hlt : i < n
  ·have e1 : IntKind.i64.wrap ((i : Int) + 1) = (i : Int) + 1 := IntWalk.i64_in _ (by omega)
   go_wp2_with fail
   obtain ⟨wO, hwO⟩ : ∃ y, wr = y := ⟨_, rfl⟩
   rw [hwO] at hO hu hc0 ⊢
   clear hwO
   go_loopg [5, 6] n (fun g te tj wr => ∃ j : Nat, i <= j /\ j <= n /\ n - j <= g /\ tj = .int .i64 (j : Nat) /\ OwnW wr wO.heap.size te ((R i).take (j - i)) /\ Up wO wr)
   case atStart => exact ⟨i, Nat.le_refl _, hi, by omega, rfl, by rw [Nat.sub_self, List.take_zero]; exact OwnW.nil _ _, Up.refl _⟩
   case round =>
    clear hc0
    obtain ⟨j, hij, hj, hjg, rfl, hE, huj⟩ := hrel
    have hBj := hB.up (hu.trans huj)
    have hc0 := hBj.cell 0 rfl
    by_cases hjlt : j < n
    ·have e2 : IntKind.i64.wrap ((j : Int) + 1) = (j : Int) + 1 := IntWalk.i64_in _ (by omega)
     have HA := hid (fun w' (hu' : Up wr w') => HAT.out i j hlt hjlt w' (hU.trans ((hu.trans huj).trans hu')))
     have HOf := hid (HO.out i j hlt hjlt)
     have HT9 := hid (HTE.out i j hij hjlt)
     have HTk : Hid (((R i).take (j - i)).length < 1000000) := hid (by rw [List.length_take]; omega)
     have hszj := huj.size
     generalize ent n l i j = z at *
     go_wp2_with (first
      | ((with_reducible apply ldM_P); exact rfl; exact rfl; exact hBj; exact rfl)
      | (go_at_call 29; (with_reducible refine (HA.out _ (Up.refl _)).mono ?_); rintro r w2 ⟨rfl, hu2⟩; have hs2 := hu2.size)
      | (go_at_call 25; (with_reducible refine (HOf.out _).mono ?_); rintro r w3 ⟨rfl, hu3⟩; have hs3 := hu3.size)
      | ((with_reducible apply bsW_P); exact rfl)
      | ((with_reducible apply appW (l := (R i).take (j - i)) (m := [z])); exact rfl; exact rfl; exact OwnW.up ((hu2.trans hu3).trans (Up.alloc _ _)) hE; exact one_range rfl; (focus (simp; omega)); exact HTk.out; (focus (simp; done)); rintro v6 w6 hO6 - hb6))
     go_roundg (n - (j + 1))
     case measure => omega
     case rel => exact ⟨j + 1, by omega, hjlt, Nat.le_refl _, rfl, by rw [HT9.out]; exact hO6, Below.trans (huj.trans ((hu2.trans hu3).trans (Up.alloc _ _))) hb6⟩
    ·obtain rfl : j = n := by omega
     rw [List.take_of_length_le (by rw [HRL.out]; exact Nat.le_refl _)] at hE
     obtain ⟨pe, ce, rfl⟩ := hE.slice
     have HT9 := hid (HTR.out i hlt)
     have HTk : Hid ((E.take i).length < 1000000) := hid (by rw [List.length_take]; omega)
     have hszj := huj.size
     have hszu := hu.size
     go_wp2_with (first
      | ((with_reducible apply appR (r := R i)); exact rfl; exact rfl; exact OwnR.up (huj.trans (Up.alloc _ _)) hO; exact (Blk.new _ _ rfl).cell 0 rfl; exact (hE.up (Up.alloc _ _)).wb (by omega); (focus (simp; omega)); exact HTk.out; rintro v6 w6 hO6 - hb6))
     go_roundg (j - (i + 1))
     case measure => omega
     case rel => exact ⟨i + 1, hlt, Nat.le_refl _, rfl, by rw [HT9.out]; exact hO6, Below.trans ((hu.trans huj).trans (Up.alloc _ _)) hb6⟩
  ·obtain rfl : i = n := by omega
   rw [List.take_of_length_le (by rw [HSL.out]; exact Nat.le_refl _)] at hO
   go_wp2_with fail
   go_ret
   exact ⟨_, rfl, hU.trans hu, _, hU.size, hO⟩
theorem infoWz : (Tryd.prog.info? 53).map (fun i => (i.zero, i.size, i.bytes)) = some (some (.agg (cells 16 fun _ => 0)), 16, 128) := by kernel_rfl
theorem wc_zero : wc 0 = List.replicate 16 (.int .u64 0) := by
 unfold wc
 rw [<- zero_limb]
 unfold cells
 kernel_rfl
theorem wcs_zeros (m : Nat) : wcs (List.replicate m 0) = List.replicate (m * 16) (.int .u64 0) := by
 induction m with
 | zero => rfl
 | succ m ih => rw [List.replicate_succ, wcs_cons, ih, wc_zero, List.replicate_append_replicate]; congr 1; omega
theorem made_wides (m : Nat) : (madeCells (Value.agg (cells 16 fun _ => 0)).cells (m * 16)).toList = wcs (List.replicate m 0) := by
 rw [wcs_zeros]
 have hc : (Value.agg (cells 16 fun _ => 0)).cells = cells 16 fun _ => 0 := rfl
 apply List.ext_getElem
 ·simp [madeCells]
 ·intro i h1 h2
  have hi : i % 16 < 16 := Nat.mod_lt _ (by decide)
  simp [madeCells, hc, cells_size]
  rw [getElem!_pos _ _ (by rw [cells_size]; exact hi)]
  simp [cells]
theorem mkWs {ops : Array Oper} {rest : List Oper} {Q : Exit -> Act -> World -> Prop} {a : Act} {w : World} {d : Option Tmp} {l : Tmp} {ty : TypeId} {pos : String} {af : Array Edge} {n : Nat} (hl : a.eval (.tmp l) = .int .i64 (n : Nat)) (hn : n < 1000)
   (h : ∀ w', OwnW w' w.heap.size (.slice (some ⟨w.heap.size, 0, none⟩) n n) (List.replicate n 0) -> Up w w' -> wpList Tryd.prog ops Q rest (a.put d (.slice (some ⟨w.heap.size, 0, none⟩) n n)) w') :
   wpList Tryd.prog ops Q ({ dst := d, op := .makeSlice 55 (.tmp l) (.tmp l), type := ty, pos := pos, after := af, guard := none } :: rest) a w := by
 refine wpList_plain rfl fun _ hK => ?_
 obtain ⟨i, hq, hi⟩ := Option.map_eq_some_iff.1 infoWz
 simp only [Prod.mk.injEq] at hi
 have hr := run_make (P := Tryd.prog) (w := w) 55 53 i (.agg (cells 16 fun _ => 0)) undWs hq hi.1 .i64 .i64 n n (by omega) (by omega) (by rw [hi.2.2]; omega) (by omega)
 rw [hi.2.1, Int.toNat_natCast] at hr
 unfold Oper.wp execOp
 simp only [hl, Sem.run_bind, Sem.run_pure, Result.andThen_ok, hr]
 refine hK _ _ (h _ ⟨by rw [wcs_len], .inr ⟨w.heap.size, n, _, by rw [List.length_replicate], Nat.le_refl _, heap_alloc_new w _, by rw [List.length_replicate]; exact Nat.le_refl _, by unfold maxLen; omega, by rw [size_madeCells], ?_⟩⟩ (Up.alloc _ _))
 rw [List.length_replicate, made_wides]
 exact List.take_of_length_le (by rw [wcs_len, List.length_replicate]; exact Nat.le_refl _)
theorem triR_unit (n i : Nat) (k : Int) : (List.replicate (n - i) (0 : Int)).set 0 k = triR n (unitM k) i := by
 refine list_ext (by rw [List.length_set, List.length_replicate, triR_len]) fun j hj => ?_
 rw [List.length_set, List.length_replicate] at hj
 rw [triR_at hj, zth_set (by rw [List.length_replicate]; exact hj)]
 unfold unitM
 by_cases h : j = 0
 ·rw [if_pos h, if_pos (by omega)]
 ·rw [if_neg h, if_neg (by omega), zth_get (by rw [List.length_replicate]; exact hj)]
  simp
set_option maxHeartbeats 8000000 in
theorem ones_any {n : Nat} {k : Int} (n8 : n <= 8) (hk : I64 k) (w : World) :
   Calls Tryd.prog 19 #[.int .i64 (n : Nat), .int .i64 k] w fun r w' => ∃ z, r = .returned z /\ Up w w' /\ ∃ b, w.heap.size <= b /\ OwnR w' b z (triE n (unitM k)) := by
 have HO := hid (fun w => of_any k hk.1 hk.2 w)
 have HTR := hid (fun i (hi : i < n) => triE_take_succ n (unitM k) hi)
 have HTU := hid (fun i => triR_unit n i k)
 have HSL := hid (triE_len n (unitM k))
 obtain ⟨R, hRR⟩ : ∃ R, triR n (unitM k) = R := ⟨_, rfl⟩
 obtain ⟨E, hEE⟩ : ∃ E, triE n (unitM k) = E := ⟨_, rfl⟩
 rw [hRR] at HTR HTU
 rw [hEE] at HTR HSL ⊢
 clear hRR hEE hk
 unfold wideV at *
 go_enter Tryd.func19, Tryd.ntmps19
 go_wp2_with fail
 go_loopg [5, 9] n (fun g tr ti wr => ∃ i : Nat, i <= n /\ n - i <= g /\ ti = .int .i64 (i : Nat) /\ OwnR wr w.heap.size tr (E.take i) /\ Up w wr)
 case atStart => exact ⟨0, Nat.zero_le _, by omega, rfl, by rw [List.take_zero]; exact OwnR.nil _ _, Up.refl _⟩
 case round =>
  obtain ⟨i, hi, hig, rfl, hO, hu⟩ := hrel
  by_cases hlt : i < n
  ·have e1 : IntKind.i64.wrap ((i : Int) + 1) = (i : Int) + 1 := IntWalk.i64_in _ (by omega)
   obtain ⟨m, hm⟩ : ∃ m, n - i = m := ⟨_, rfl⟩
   have hm0 : 0 < m := by omega
   have e2 : IntKind.i64.wrap ((n : Int) - (i : Int)) = (m : Int) := by rw [show (n : Int) - (i : Int) = (m : Int) by omega]; exact IntWalk.i64_in _ (by omega)
   have HU9 := hid (HTU.out i)
   rw [hm] at HU9
   have HT9 := hid (HTR.out i hlt)
   have HTk : Hid ((E.take i).length < 1000000) := hid (by rw [List.length_take]; omega)
   have hszu := hu.size
   go_upto_region 6 with (first
    | ((with_reducible apply mkWs (n := m)); exact rfl; (focus omega); rintro w2 hO2 hu2))
   obtain ⟨gW, cW, CW, hvW, hbW, hBW, -, -, hsW, -⟩ := hO2.open (by rw [List.length_replicate]; omega)
   injection hvW with x1 x2 x3
   injection x1 with x1
   injection x1 with x1
   rw [<- x1] at hBW
   have hset := fun w3 (hu3 : Up w2 w3) => (hO2.up hu3).set (hBW.up hu3) (i := 0) (by rw [List.length_replicate]; omega) k
   rw [HU9.out] at hset
   have HSe := hid hset
   have hs2 := hu2.size
   have hBW2 := hid (fun w3 (hu3 : Up w2 w3) => hBW.up hu3)
   obtain ⟨b2, hb2⟩ : ∃ y, wr.heap.size = y := ⟨_, rfl⟩
   have HLe := hid (fun w3 (hu3 : Up w2 w3) D => show Up wr (w3.setRow b2 D) from below_setRow (hu2.trans hu3) (Nat.le_of_eq hb2) D)
   rw [hb2] at HSe hBW2 hs2 ⊢
   clear hset hO2 x1 x2 x3 hBW hsW hbW
   go_upto_region 7 with (first
    | (go_at_call 25; (with_reducible refine (HO.out _).mono ?_); rintro r w3 ⟨rfl, hu3⟩)
    | ((with_reducible apply stW_P (off := 0) (z := k) (C := CW)); exact rfl; exact rfl; exact hBW2.out _ hu3; exact (HSe.out _ hu3).2
       refine wpL_folded (fun wd => Up wr wd /\ OwnW wd b2 (.slice (some ⟨b2, 0, none⟩) m m) (R i)) ⟨HLe.out _ hu3 _, (HSe.out _ hu3).1⟩ ?_
       rintro w4 ⟨hu4, hW4⟩))
   have hs4 := hu4.size
   have hb3 : wr.heap.size <= b2 := Nat.le_of_eq hb2
   clear hu2 hu3 HSe hBW2 HLe hb2
   go_wp2_with (first
    | ((with_reducible apply appR (r := R i)); exact rfl; exact rfl; exact OwnR.up (hu4.trans (Up.alloc _ _)) hO; exact (Blk.new _ _ rfl).cell 0 rfl; exact (hW4.up (Up.alloc _ _)).wb (by omega); (focus (simp; omega)); exact HTk.out; rintro v6 w6 hO6 - hb6))
   go_roundg (n - (i + 1))
   case measure => omega
   case rel => exact ⟨i + 1, hlt, Nat.le_refl _, rfl, by rw [HT9.out]; exact hO6, Below.trans ((hu.trans hu4).trans (Up.alloc _ _)) hb6⟩
  ·obtain rfl : i = n := by omega
   rw [List.take_of_length_le (by rw [HSL.out]; exact Nat.le_refl _)] at hO
   go_wp2_with fail
   go_ret
   exact ⟨_, rfl, hu, _, Nat.le_refl _, hO⟩
theorem sum_inR {a b : Int} {k : Nat} (hk : k <= 14) (ha : a.natAbs < bp k) (hb : b.natAbs < bp k) : InR (a - b) := by
 refine few_inR (k := k + 1) (by omega) ?_
 have := Int.natAbs_sub_le a b
 have := bp_pos k
 rw [bp_succ]
 omega
set_option maxHeartbeats 16000000 in
theorem blessy_any {va vb : Value} {n : Nat} {f g : Nat -> Nat -> Int} {w : World} (hA : Rz w va (triE n f)) (hB : Rz w vb (triE n g)) (n8 : n <= 8) (hf : ∀ i j, (f i j).natAbs < bp 14) (hg : ∀ i j, (g i j).natAbs < bp 14) :
   Calls Tryd.prog 17 #[va, vb] w fun r w' => ∃ z, r = .returned z /\ Up w w' /\ ∃ b, w.heap.size <= b /\ OwnR w' b z (triE n fun i j => f i j - g i j) := by
 have HTR := hid (fun i (hi : i < n) => triE_take_succ n (fun i j => f i j - g i j) hi)
 have HTE := hid (fun i d (hd : d < n - i) => show (triR n (fun i j => f i j - g i j) i).take (d + 1) = (triR n (fun i j => f i j - g i j) i).take d ++ [f i (i + d) - g i (i + d)] from by unfold triR; rw [mk_take_succ _ hd])
 have HRL := hid (fun i => triR_len n (fun i j => f i j - g i j) i)
 have HSL := hid (triE_len n (fun i j => f i j - g i j))
 have HS := hid (fun i j w => by
  have h := sub_z (few_inR (k := 14) (by omega) (hf i j)) (few_inR (k := 14) (by omega) (hg i j)) w
  rw [opt_yes (sum_inR (by omega) (hf i j) (hg i j))] at h
  exact h)
 have HA := hid hA
 have HB := hid hB
 obtain ⟨R, hRR⟩ : ∃ R, triR n (fun i j => f i j - g i j) = R := ⟨_, rfl⟩
 obtain ⟨E, hEE⟩ : ∃ E, triE n (fun i j => f i j - g i j) = E := ⟨_, rfl⟩
 rw [hRR] at HTR HTE HRL
 rw [hEE] at HTR HSL ⊢
 obtain ⟨pa, ca, rfl⟩ := hA.slice
 obtain ⟨pb, cb, rfl⟩ := hB.slice
 rw [triE_len] at HA HB
 rw [triE_len, triE_len]
 clear hRR hEE hf hg hA hB
 unfold wideV at *
 go_enter Tryd.func17, Tryd.ntmps17
 go_wp2_with fail
 go_loopg [5, 13] n (fun g0 tr ti wr => ∃ i : Nat, i <= n /\ n - i <= g0 /\ ti = .int .i64 (i : Nat) /\ OwnR wr w.heap.size tr (E.take i) /\ Up w wr)
 case atStart => exact ⟨0, Nat.zero_le _, by omega, rfl, by rw [List.take_zero]; exact OwnR.nil _ _, Up.refl _⟩
 case round =>
  obtain ⟨i, hi, hig, rfl, hO, hu⟩ := hrel
  by_cases hlt : i < n
  ·obtain ⟨gA, cA, CA, hva, hcA, hBA, hEA⟩ := HA.out.open (by rw [triE_len]; omega)
   obtain ⟨gB, cB, CB, hvb, hcB, hBB, hEB⟩ := HB.out.open (by rw [triE_len]; omega)
   rw [triE_len] at hva hvb hcA hcB
   injection hva with x1 _ x3
   injection hvb with y1 _ y3
   subst x1 x3 y1 y3
   obtain ⟨sA, hsA, hWA⟩ := hEA i (by rw [triE_len]; omega)
   obtain ⟨sB, hsB, hWB⟩ := hEB i (by rw [triE_len]; omega)
   rw [triE_at hlt] at hWA hWB
   obtain ⟨g1, c1, C1, rfl, hc1, hB1, ht1⟩ := hWA.open (by rw [triR_len]; omega)
   obtain ⟨g2, c2, C2, rfl, hc2, hB2, ht2⟩ := hWB.open (by rw [triR_len]; omega)
   rw [triR_len] at hsA hsB hc1 hc2
   have HR1 := hid (fun d (hd : d < n - i) w' (hB : Blk w' g1 53 C1) => show w'.rangeAt g1 (d * 16) (wc (f i (i + d))) from by
    have h := wv_range hB ht1 (i := d) (by rw [triR_len]; exact hd)
    rwa [triR_at hd] at h)
   have HR2 := hid (fun d (hd : d < n - i) w' (hB : Blk w' g2 53 C2) => show w'.rangeAt g2 (d * 16) (wc (g i (i + d))) from by
    have h := wv_range hB ht2 (i := d) (by rw [triR_len]; exact hd)
    rwa [triR_at hd] at h)
   have e1 : IntKind.i64.wrap ((i : Int) + 1) = (i : Int) + 1 := IntWalk.i64_in _ (by omega)
   have hcx := (hBA.up hu).cell i hsA
   obtain ⟨m, hm⟩ : ∃ m, n - i = m := ⟨_, rfl⟩
   have HM := hid hm
   rw [hm] at hcx hsB hsA
   clear hEA hEB hWA hWB ht1 ht2
   go_wp2_with fail
   obtain ⟨wO, hwO⟩ : ∃ y, wr = y := ⟨_, rfl⟩
   rw [hwO] at hO hu hcx ⊢
   clear hwO hcx
   go_loopg [7, 21] m (fun g0 te tj wr => ∃ d : Nat, d <= m /\ m - d <= g0 /\ tj = .int .i64 (d : Nat) /\ OwnW wr wO.heap.size te ((R i).take d) /\ Up wO wr)
   case atStart => exact ⟨0, Nat.zero_le _, by omega, rfl, by rw [List.take_zero]; exact OwnW.nil _ _, Up.refl _⟩
   case round =>
    obtain ⟨d, hd, hdg, rfl, hE, hud⟩ := hrel
    by_cases hdlt : d < m
    ·have e2 : IntKind.i64.wrap ((d : Int) + 1) = (d : Int) + 1 := IntWalk.i64_in _ (by omega)
     have hcA9 := (hBA.up (hu.trans hud)).cell i hsA
     have hcB9 := (hBB.up (hu.trans hud)).cell i hsB
     have hB19 := hB1.up (hu.trans hud)
     have hB29 := hB2.up (hu.trans hud)
     have H1 := hid (HR1.out d (by omega))
     have H2 := hid (HR2.out d (by omega))
     have HSub := hid (HS.out i (i + d))
     have HT9 := hid (HTE.out i d (by omega))
     have HTk : Hid (((R i).take d).length < 1000000) := hid (by rw [List.length_take]; omega)
     unfold wideV at HSub
     generalize f i (i + d) = x at *
     generalize g i (i + d) = y at *
     have hszd := hud.size
     go_wp2_with fail
     refine opU (S := (fun wq => wq.cell? ⟨gA, i, none⟩ = some (.slice (some ⟨g1, 0, none⟩) m c1) /\ wq.cell? ⟨gB, i, none⟩ = some (.slice (some ⟨g2, 0, none⟩) m c2) /\ Up wr wq /\ Below w.heap.size w wq)) (req := (fun j => j != 19)) (fun _ _ h hu => ⟨hu.cell (h.1), hu.cell (h.2.1), (h.2.2.1).trans hu, below_up (h.2.2.2) hu⟩) ⟨(by first | assumption | (apply Blk.cell; exact gBlk; exact rfl)), (by first | assumption | (apply Blk.cell; exact gBlk; exact rfl)), (by first | exact Up.refl _ | assumption), gUp⟩ (fun wS hSS hSu => ?_)
     have ⟨hS1, hS2, hS3, hSB⟩ := hSS
     refine tkP 0 (some 25) hSu ?_
     refine tkP 1 (some 26) hSu ?_
     refine tkP 2 (some 27) hSu ?_
     refine tkT 3 (some 28) rfl hSu hSS ?_ (hy := fun w' hSw => by ((try dsimp only at hSw); (try obtain ⟨_, _, _, _⟩ := hSw); go_simp; (try exact rfl)))
     refine tkP 4 (some 29) hSu ?_
     refine tkP 5 (some 30) hSu ?_
     refine tkT 6 (some 31) rfl hSu hSS ?_ (hy := fun w' hSw => run_ldW rfl rfl (H1.out _ (hB19.up hSw.2.2.1)))
     refine tkP 7 (some 32) hSu ?_
     refine tkP 8 (some 33) hSu ?_
     refine tkP 9 (some 34) hSu ?_
     refine tkT 10 (some 35) rfl hSu hSS ?_ (hy := fun w' hSw => by ((try dsimp only at hSw); (try obtain ⟨_, _, _, _⟩ := hSw); go_simp; (try exact rfl)))
     refine tkP 11 (some 36) hSu ?_
     refine tkP 12 (some 37) hSu ?_
     refine tkT 13 (some 38) rfl hSu hSS ?_ (hy := fun w' hSw => run_ldW rfl rfl (H2.out _ (hB29.up hSw.2.2.1)))
     refine tkC 14 (some 39) rfl hSu hSS ?_ (hy := fun w' hSw => (HSub.out _))
     refine tkP 15 (some 24) hSu ?_
     refine tkP 16 (some 40) hSu ?_
     refine tkP 17 (some 41) hSu ?_
     refine wpAnyU_allocW (i := 18) (d := (some 9)) rfl rfl (by kernel_rfl) (by rfl) rfl hSu.out fun w2 hw2 => ?_
     try simp only [Act.put, pu1, pu2, pu3]
     refine wpAnyU_one (i := 19) rfl (by kernel_rfl) (by rfl) fun w3 hw3 => ?_
     refine wp_st_rowN infoW rfl _ _ rfl _ rfl rfl ((Row.up (row_newc _ 16 _ rfl) hw3)) ?_
     refine ⟨fun h => by simp at h, ?_⟩
     try simp only [Act.put, pu1, pu2, pu3]
     refine tkP 20 (some 10) hSu ?_
     refine wpAnyU_done (by kernel_rfl) (fun wF huE => ?_) _
     have hP1 := ((Row.up (row_newc 53 16 (fun _ => 0) (rfl : w2.heap.size = w2.heap.size)) hw3).setRow (limb (enc (x - y)))).up huE
     have hx1 := up_var (hS3.trans hw2) hw3 huE
     clear hS1 hS2 hS3 hSB hSS hw2 hw3 huE hcA9 hcB9
     obtain ⟨wA, hwA⟩ : ∃ x, wF = x := ⟨_, rfl⟩
     rw [hwA] at hP1 hx1 ⊢
     clear hwA
     obtain ⟨b1, hb1⟩ : ∃ x, w2.heap.size = x := ⟨_, rfl⟩
     rw [hb1] at hP1 ⊢
     clear hb1
     have hsz1 := hx1.size
     go_wp2_with (first
      | ((with_reducible apply ld_rowP undW infoW); exact rfl; exact rfl; exact hP1)
      | ((with_reducible apply bsW_P); exact rfl)
      | ((with_reducible apply appW (l := (R i).take d) (m := [x - y])); exact rfl; exact rfl; exact OwnW.up (hx1.trans (Up.alloc _ _)) hE; exact one_range rfl; (focus (simp; omega)); exact HTk.out; (focus (simp; done)); rintro v6 w6 hO6 - hb6))
     go_roundg (m - (d + 1))
     case measure => omega
     case rel => exact ⟨d + 1, hdlt, Nat.le_refl _, rfl, by rw [HT9.out]; exact hO6, Below.trans (hud.trans (hx1.trans (Up.alloc _ _))) hb6⟩
    ·obtain rfl : d = m := by omega
     rw [List.take_of_length_le (by rw [HRL.out]; omega)] at hE
     obtain ⟨pe, ce, rfl⟩ := hE.slice
     have HT9 := hid (HTR.out i hlt)
     have HTk : Hid ((E.take i).length < 1000000) := hid (by rw [List.length_take]; omega)
     have hszd := hud.size
     have hszu := hu.size
     go_wp2_with (first
      | ((with_reducible apply appR (r := R i)); exact rfl; exact rfl; exact OwnR.up (hud.trans (Up.alloc _ _)) hO; exact (Blk.new _ _ rfl).cell 0 rfl; exact (hE.up (Up.alloc _ _)).wb (by omega); (focus (simp; omega)); exact HTk.out; rintro v6 w6 hO6 - hb6))
     go_roundg (n - (i + 1))
     case measure => omega
     case rel => exact ⟨i + 1, hlt, Nat.le_refl _, rfl, by rw [HT9.out]; exact hO6, Below.trans ((hu.trans hud).trans (Up.alloc _ _)) hb6⟩
  ·obtain rfl : i = n := by omega
   rw [List.take_of_length_le (by rw [HSL.out]; exact Nat.le_refl _)] at hO
   go_wp2_with fail
   go_ret
   exact ⟨_, rfl, hu, _, Nat.le_refl _, hO⟩
set_option linter.unusedSimpArgs false
section
variable {P : Program} {ops : Array Oper} {Q : Exit -> Act -> World -> Prop} {md : Region.Mode}
structure SG where
 p : Value -> World -> Prop
 up : ∀ v w w', p v w -> Up w w' -> p v w'
 b : Option Bool
 hb : ∀ c, b = some c -> ∀ v w, p v w -> v = .bool c
 u : Bool
 hu : u = true -> ∀ w, p undef w
def SG.is (c : Value) : SG := ⟨fun v _ => v = c, fun _ _ _ h _ => h, none, (by simp), false, (by simp)⟩
def SG.tt (c : Bool) : SG := ⟨fun v _ => v = .bool c, fun _ _ _ h _ => h, some c, (fun _ h _ _ e => (by injection h with h; subst h; exact e)), false, (by simp)⟩
def SG.no : SG := ⟨fun v _ => v = undef, fun _ _ _ h _ => h, none, (by simp), true, (by simp)⟩
def SG.any : SG := ⟨fun _ _ => True, fun _ _ _ h _ => h, none, (by simp), true, (by simp)⟩
def SG.of (p : Value -> World -> Prop) (up : ∀ v w w', p v w -> Up w w' -> p v w') : SG := ⟨p, up, none, (by simp), false, (by simp)⟩
def nthG (L : List SG) (i : Nat) (v : Value) (w : World) : Prop := (L.getD i SG.any).p v w
def wantG (ops : Array Oper) (L : List SG) (i : Nat) : Bool := match (ops[i]?).bind (·.guard) with | none => true | some (j, b) => (L.getD j SG.any).b == some b
def gdB (md : Region.Mode) (ops : Array Oper) (L : List SG) (st i : Nat) : Bool :=
 match ops[i]? with
 | none => true
 | some o => match o.guard with
   | none => true
   | some (j, b) => j != st && (o.after.any fun e => Region.binds md e && e.on == j) && (((ops[j]?).map fun o' => o'.dst.isSome).getD false) && ((L.getD j SG.any).b == some b || ((L.getD j SG.any).b == some (!b) && (L.getD i SG.any).u))
def relG (md : Region.Mode) (ops : Array Oper) (L : List SG) (n st : Nat) : Bool :=
 ((List.range ops.size).all fun i => ((ops[i]?).map fun o => gdB md ops L st i && (o.after.all fun e => !Region.binds md e || decide (e.on < i)) &&
   (if i = st then o.dst.isNone && o.guard.isNone else ((o.dst.map fun d => decide (d < n)).getD false) && (List.range ops.size).all fun j => j == i || ((ops[j]?).map fun o' => o'.dst != o.dst).getD true)).getD false) &&
 (decide (ops.size <= st) || (List.range ops.size).all fun j => j == st || waitsU md ops j ops.size st)
theorem relG_op {L : List SG} {n st : Nat} (h : relG md ops L n st = true) {i : Nat} {o : Oper} (hi : ops[i]? = some o) :
   gdB md ops L st i = true /\ (∀ e ∈ o.after, Region.binds md e = true -> e.on < i) /\ (i = st -> o.dst = none /\ o.guard = none) /\
   (i ≠ st -> ∃ d, o.dst = some d /\ d < n /\ ∀ j o', ops[j]? = some o' -> j ≠ i -> o'.dst ≠ some d) := by
 unfold relG at h
 rw [Bool.and_eq_true] at h
 have hlt : i < ops.size := (Array.getElem?_eq_some_iff.1 hi).1
 have h1 := List.all_eq_true.1 h.1 i (List.mem_range.2 hlt)
 rw [hi] at h1
 simp only [Option.map_some, Option.getD_some, Bool.and_eq_true] at h1
 obtain ⟨⟨h2, h3⟩, h4⟩ := h1
 refine ⟨h2, fun e he hb => ?_, fun hs => ?_, fun hs => ?_⟩
 ·have := Array.all_eq_true_iff_forall_mem.1 h3 e he
  simpa [hb] using this
 ·rw [if_pos hs, Bool.and_eq_true] at h4
  exact ⟨Option.isNone_iff_eq_none.1 h4.1, Option.isNone_iff_eq_none.1 h4.2⟩
 ·rw [if_neg hs, Bool.and_eq_true] at h4
  cases hd : o.dst with
  | none => rw [hd] at h4; simp at h4
  | some d =>
    rw [hd] at h4
    refine ⟨d, rfl, by simpa using h4.1, fun j o' hj hji => ?_⟩
    have h5 := List.all_eq_true.1 h4.2 j (List.mem_range.2 (Array.getElem?_eq_some_iff.1 hj).1)
    rw [hj] at h5
    simp only [Option.map_some, Option.getD_some, Bool.or_eq_true, beq_iff_eq, bne_iff_ne] at h5
    exact h5.resolve_left hji
theorem relG_store {L : List SG} {n st : Nat} (h : relG md ops L n st = true) {j : Nat} (hj : j < ops.size) (hs : st < ops.size) (hne : j ≠ st) : waitsU md ops j ops.size st = true := by
 unfold relG at h
 rw [Bool.and_eq_true, Bool.or_eq_true] at h
 rcases h.2 with h2 | h2
 ·have := of_decide_eq_true h2; omega
 ·have := List.all_eq_true.1 h2 j (List.mem_range.2 hj)
  simpa [hne] using this
theorem relG_want {L : List SG} {n st : Nat} (h : relG md ops L n st = true) {i : Nat} {o : Oper} (hi : ops[i]? = some o) {a a0 : Act} {w : World} (hn : a.tmps.size = n) {listed : Array Bool}
   (hall : ∀ e ∈ o.after, Region.binds md e = true -> listed.getD e.on false = true) (hI : RelInv ops (nthG L) a0 listed a w) :
   Region.wanted o (yielded ops a.tmps) = wantG ops L i /\ (wantG ops L i = false -> ∀ w, nthG L i undef w) := by
 obtain ⟨h1, _, _, _⟩ := relG_op h hi
 unfold gdB at h1
 unfold wantG
 rw [hi] at h1 ⊢
 dsimp only [Option.bind_some] at h1 ⊢
 unfold Region.wanted
 cases hg : o.guard with
 | none => simp [hg]
 | some jb =>
   obtain ⟨j, b⟩ := jb
   rw [hg] at h1
   simp only [Bool.and_eq_true, bne_iff_ne, Array.any_eq_true', beq_iff_eq, Bool.or_eq_true] at h1
   obtain ⟨⟨⟨hjs, e, he, hb, hon⟩, hd⟩, hk⟩ := h1
   cases hoj : ops[j]? with
   | none => rw [hoj] at hd; cases hd
   | some o' =>
     rw [hoj] at hd
     simp only [Option.map_some, Option.getD_some] at hd
     obtain ⟨d, hd⟩ := Option.isSome_iff_exists.1 hd
     obtain ⟨d', hd', hdn, _⟩ := (relG_op h hoj).2.2.2 hjs
     rw [hd] at hd'
     obtain rfl := Option.some.inj hd'
     have hR := hI.done j o' d hoj (by have := hall e he hb; rw [hon] at this; exact this) hd
     have hy : ∀ c, (L.getD j SG.any).b = some c -> yielded ops a.tmps j = some c := fun c hc => by
      have hv := (L.getD j SG.any).hb c hc _ _ hR
      unfold yielded
      rw [hoj]
      have hds : d < a.tmps.size := by rw [hn]; exact hdn
      simp only [Option.bind_some, hd]
      rw [Array.getElem?_eq_getElem hds]
      have e2 : a.tmps.getD d undef = a.tmps[d] := by simp [hds]
      rw [e2] at hv
      rw [hv]
     simp only [Option.bind_some, hg]
     rcases hk with hk | ⟨hk, hu⟩
     ·rw [hy b hk, hk]; simp
     ·rw [hy _ hk, hk]
      refine ⟨by cases b <;> rfl, fun _ w => (L.getD i SG.any).hu hu w⟩
theorem exists_readyG {L : List SG} {n st : Nat} (hB : relG md ops L n st = true) {listed : Array Bool} (hs : listed.size = ops.size) : ∀ k, k < ops.size -> listed.getD k true = false -> ∃ i, i ∈ Region.ready md ops listed := by
 intro k
 induction k using Nat.strongRecOn with
 | _ k ih =>
   intro hk hl
   obtain ⟨o, ho⟩ : ∃ o, ops[k]? = some o := ⟨ops[k], Array.getElem?_eq_getElem hk⟩
   obtain ⟨_, h2, _⟩ := relG_op hB ho
   by_cases hall : ∀ e ∈ o.after, Region.binds md e = true -> listed.getD e.on false = true
   ·exact ⟨k, mem_ready.2 ⟨hl, o, ho, hall⟩⟩
   ·obtain ⟨e, hne⟩ := Classical.not_forall.1 hall
    obtain ⟨he, hne⟩ := Classical.not_imp.1 hne
    obtain ⟨hb, hne⟩ := Classical.not_imp.1 hne
    have hlt := h2 e he hb
    refine ih e.on hlt (by omega) ?_
    have hsz : e.on < listed.size := by omega
    simp [hsz] at hne ⊢
    exact hne
theorem wpAny_relG {L : List SG} {n st : Nat} {S : World -> Prop} {a0 : Act} {w0 : World} (hn : a0.tmps.size = n) (hB : relG md ops L n st = true)
   (hS : ∀ w w', S w -> Up w w' -> S w')
   (hop : ∀ i o, ops[i]? = some o -> i ≠ st -> wantG ops L i = true -> ∀ ev w, S w -> RelEv ops md (nthG L) a0 o ev w -> LeavesR P (nthG L i) w ((execOp ev o).run P w))
   (hfin : ∀ a w, a.tmps.size = a0.tmps.size -> a.defers = a0.defers -> (∀ s, (∀ o' ∈ ops, o'.dst ≠ some s) -> a.tmps[s]? = a0.tmps[s]?) -> (∀ i o d, ops[i]? = some o -> i ≠ st -> o.dst = some d -> nthG L i (a.tmps.getD d undef) w) -> S w -> Up w0 w ->
    (ops.size <= st -> Q .normal a w) /\ (∀ o, ops[st]? = some o -> Oper.wp P o a w (Q .normal) Q)) :
   ∀ (fuel : Nat) (listed : Array Bool) (a : Act) (w : World), leftU ops.size listed <= fuel -> closedU md ops listed -> (st < ops.size -> listed.getD st true = false) -> RelInv ops (nthG L) a0 listed a w -> S w -> Up w0 w -> wpAny P md ops Q fuel listed a w := by
 intro fuel
 induction fuel with
 | zero =>
   intro listed a w hf hcl hst hI hSw hu
   have hz := fun {j} => leftU_zero (listed := listed) (n := ops.size) (by omega) (j := j)
   have hst' : ops.size <= st := by
    rcases Nat.lt_or_ge st ops.size with h | h
    ·have := hst h; rw [hz h] at this; cases this
    ·exact h
   refine ⟨?_, ?_⟩
   ·cases hrd : Region.ready md ops listed with
    | nil => rfl
    | cons i l =>
      obtain ⟨h1, o, ho, _⟩ := mem_ready.1 (show i ∈ Region.ready md ops listed by rw [hrd]; exact List.mem_cons_self)
      rw [hz (Array.getElem?_eq_some_iff.1 ho).1] at h1
      cases h1
   ·refine (hfin a w hI.size hI.defers hI.other (fun i o d ho hi hd => hI.done i o d ho ?_ hd) hSw hu).1 hst'
    have h1 := hz (Array.getElem?_eq_some_iff.1 ho).1
    have h2 : i < listed.size := by rw [hI.lsize]; exact (Array.getElem?_eq_some_iff.1 ho).1
    simp [h2] at h1 ⊢
    exact h1
 | succ fuel ih =>
   intro listed a w hf hcl hst hI hSw hu
   have hcase : Region.ready md ops listed = [] -> ∀ j, j < ops.size -> listed.getD j true = true := by
    intro hr j hj
    cases hl : listed.getD j true with
    | true => rfl
    | false =>
      obtain ⟨i, hi⟩ := exists_readyG hB hI.lsize j hj hl
      rw [hr] at hi
      cases hi
   have hfull : ∀ (hz : ∀ j, j < ops.size -> j ≠ st -> listed.getD j true = true) (i : Nat) (o : Oper) (d : Tmp), ops[i]? = some o -> i ≠ st -> o.dst = some d -> nthG L i (a.tmps.getD d undef) w := by
    intro hz i o d ho hi hd
    refine hI.done i o d ho ?_ hd
    have h1 := hz i (Array.getElem?_eq_some_iff.1 ho).1 hi
    have h2 : i < listed.size := by rw [hI.lsize]; exact (Array.getElem?_eq_some_iff.1 ho).1
    simp [h2] at h1 ⊢
    exact h1
   refine ⟨fun hr => ?_, fun i hi => ?_⟩
   ·have hz := hcase hr
    have hst' : ops.size <= st := by
     rcases Nat.lt_or_ge st ops.size with h | h
     ·have := hst h; rw [hz st h] at this; cases this
     ·exact h
    exact (hfin a w hI.size hI.defers hI.other (hfull fun j hj _ => hz j hj) hSw hu).1 hst'
   ·obtain ⟨hun, o, ho, hall⟩ := mem_ready.1 hi
    have hlt : i < ops.size := (Array.getElem?_eq_some_iff.1 ho).1
    obtain ⟨hg, _, hdn, hds⟩ := relG_op hB ho
    obtain ⟨hwt, hno⟩ := relG_want hB ho (by rw [hI.size, hn]) hall hI
    by_cases his : i = st
    ·subst his
     have hw : Region.wanted o (yielded ops a.tmps) = true := by simp [Region.wanted, (hdn rfl).2]
     unfold wpOp
     simp only [ho, hw, if_true]
     refine .inl ?_
     have hz : ∀ j, j < ops.size -> j ≠ i -> listed.getD j true = true := by
      intro j hj hne
      have h1 := waitsU_spec hcl ops.size i o ho hall (relG_store hB hj hlt hne)
      have h2 : j < listed.size := by rw [hI.lsize]; exact hj
      simp [h2] at h1 ⊢
      exact h1
     have h1 := (hfin a w hI.size hI.defers hI.other (hfull hz) hSw hu).2 o ho
     have hnil : Region.ready md ops (listed.setIfInBounds i true) = [] := by
      cases hrd : Region.ready md ops (listed.setIfInBounds i true) with
      | nil => rfl
      | cons k l =>
        obtain ⟨h1, ok, hok, _⟩ := mem_ready.1 (show k ∈ Region.ready md ops (listed.setIfInBounds i true) by rw [hrd]; exact List.mem_cons_self)
        have hk : k < ops.size := (Array.getElem?_eq_some_iff.1 hok).1
        by_cases hki : k = i
        ·subst hki
         have h2 : k < listed.size := by rw [hI.lsize]; exact hk
         simp [h2] at h1
        ·rw [getD_set_ne true (Ne.symm hki), hz k hk hki] at h1
         cases h1
     refine Oper.wp_mono (fun a' w' hq => ?_) h1
     cases fuel with
     | zero => exact ⟨hnil, hq⟩
     | succ f => exact ⟨fun _ => hq, by rw [hnil]; intro j hj; cases hj⟩
    ·obtain ⟨d, hd, hdl, hdd⟩ := hds his
     have hev : RelEv ops md (nthG L) a0 o a.eval w := by
      refine ⟨fun _ => rfl, fun _ => rfl, fun _ => rfl, fun s hs => ?_, fun j o' d' hj he hd' => ?_⟩
      ·show a.tmps.getD s undef = a0.tmps.getD s undef
       rw [Array.getD_eq_getD_getElem?, Array.getD_eq_getD_getElem?, hI.other s hs]
      ·obtain ⟨e, he, hb, rfl⟩ := he
       exact hI.done e.on o' d' hj (hall e he hb) hd'
     have hnext : ∀ v w', nthG L i v w' -> Up w w' -> wpAny P md ops Q fuel (listed.setIfInBounds i true) (a.put o.dst v) w' := by
      intro v w' hv hu'
      refine ih _ _ _ ?_ (closedU_set hcl hi) (fun h => ?_) ?_ (hS _ _ hSw hu') (hu.trans hu')
      ·have := leftU_set (n := ops.size) hlt hun; omega
      ·rw [getD_set_ne true his]; exact hst h
      ·rw [hd]
       refine ⟨hI.defers, by simp [Act.put, hI.size], by simp [hI.lsize], fun s hs => ?_, fun j o' d' hj hl hd' => ?_⟩
       ·have hne : d ≠ s := by
         rintro rfl
         obtain ⟨hx, hy⟩ := Array.getElem?_eq_some_iff.1 ho
         exact hs o (by rw [<- hy]; exact Array.getElem_mem hx) hd
        rw [<- hI.other s hs]
        simp [Act.put, hne]
       ·by_cases hji : j = i
        ·subst hji
         rw [ho] at hj
         obtain rfl := Option.some.inj hj
         rw [hd] at hd'
         obtain rfl := Option.some.inj hd'
         have hds : d < a.tmps.size := by rw [hI.size, hn]; exact hdl
         have e : ((a.put (some d) v).tmps.getD d undef) = v := by simp [Act.put, hds]
         rw [e]
         exact hv
        ·have hne : d ≠ d' := fun e => hdd j o' hj hji (by rw [hd', e])
         rw [getD_set_ne false (Ne.symm hji)] at hl
         have e : ((a.put (some d) v).tmps.getD d' undef) = a.tmps.getD d' undef := by
          rw [Array.getD_eq_getD_getElem?, Array.getD_eq_getD_getElem?]
          simp [Act.put, hne]
         rw [e]
         exact (L.getD j SG.any).up _ _ _ (hI.done j o' d' hj hl hd') hu'
     unfold wpOp
     simp only [ho, hwt]
     cases hwg : wantG ops L i with
     | false =>
       simp only [Bool.false_eq_true, if_false]
       exact hnext _ _ (hno hwg w) (Up.refl _)
     | true =>
     simp only [if_true]
     refine .inl ?_
     have h1 := hop i o ho his hwg a.eval w hSw hev
     unfold Oper.wp
     generalize (execOp a.eval o).run P w = r at *
     cases r with
     | halt x w' => exact h1.elim
     | ok nx w' =>
       cases nx with
       | value u => exact hnext u w' h1.1 h1.2
       | enter f args =>
         obtain ⟨hu', hc⟩ := h1
         refine Calls.mono hc fun e w'' he => ?_
         obtain ⟨hu2, v, rfl, hv⟩ := he
         exact hnext v w'' hv (hu'.trans hu2)
       | _ => exact h1.elim
theorem wp_region_relG {id : Nat} {a0 : Act} {w0 : World} {n : Nat} (st : Nat) (ds : List Tmp) (L : List SG) (S : World -> Prop) (hm : P.follows .mixedOrders = true) (hn : a0.tmps.size = n) (hB : relG .any ops L n st = true)
   (hds : ∀ o ∈ ops, ∀ d, o.dst = some d -> d ∈ ds)
   (hS : ∀ w w', S w -> Up w w' -> S w') (h0 : S w0)
   (hop : ∀ i o, ops[i]? = some o -> i ≠ st -> wantG ops L i = true -> ∀ ev w, S w -> RelEv ops .any (nthG L) a0 o ev w -> LeavesR P (nthG L i) w ((execOp ev o).run P w))
   (hfin : ∀ (g : Tmp -> Value) w, (∀ i o d, ops[i]? = some o -> i ≠ st -> o.dst = some d -> nthG L i (g d) w) -> S w -> Up w0 w ->
    (ops.size <= st -> Q .normal (putL a0 (ds.map fun d => (d, g d))) w) /\ (∀ o, ops[st]? = some o -> Oper.wp P o (putL a0 (ds.map fun d => (d, g d))) w (Q .normal) Q)) :
   (Code.region id ops true).wp P Q a0 w0 := by
 refine wp_region_any hm (wpAny_relG hn hB hS hop (fun a w hs hd ho hr hSw hu => ?_) _ _ _ _ ?_ ?_ ?_ ?_ (hS _ _ h0 (Up.drew w0)) (Up.drew w0))
 ·rw [putL_eq (ds := ds) hs hd (fun s hs' => ho s fun o' hm he => hs' (hds o' hm s he))]
  exact hfin (fun d => a.tmps.getD d undef) w hr hSw hu
 ·unfold leftU; exact Nat.le_trans (List.length_filter_le _ _) (by simp)
 ·intro j oj hj hl
  have : j < ops.size := (Array.getElem?_eq_some_iff.1 hj).1
  simp [this] at hl
 ·intro h; simp [h]
 ·refine ⟨rfl, rfl, by simp, fun _ _ => rfl, fun i o d ho hl _ => ?_⟩
  have : i < ops.size := (Array.getElem?_eq_some_iff.1 ho).1
  simp [this] at hl
structure EvG (ops : Array Oper) (L : List SG) (a0 : Act) (i : Nat) (ev : Operand -> Value) (w : World) : Prop where
 const : ∀ c, ev (.const c) = c
 func : ∀ f, ev (.func f) = .func (.func f) #[] #[]
 global : ∀ g, ev (.global g) = .pointer (some ⟨g, 0, none⟩)
 other : ∀ s, freeB ops s = true -> ev (.tmp s) = a0.eval (.tmp s)
 dep : ∀ j d, depB .any ops i j d = true -> nthG L j (ev (.tmp d)) w
theorem wp_region_sg {id : Nat} {a0 : Act} {w0 : World} {n : Nat} (st : Nat) (ds : List Tmp) (L : List SG) (S : World -> Prop) (hm : P.follows .mixedOrders = true) (hn : a0.tmps.size = n) (hB : relG .any ops L n st = true)
   (hds : dsB ops ds = true) (hS : ∀ w w', S w -> Up w w' -> S w') (h0 : S w0)
   (hop : ∀ ev w, S w -> ∀ i o, i ≠ st -> ops[i]? = some o -> wantG ops L i = true -> EvG ops L a0 i ev w -> LeavesR P (nthG L i) w ((execOp ev o).run P w))
   (hfin : ∀ (g : Tmp -> Value) w, (∀ i d, i ≠ st -> dstB ops i d = true -> nthG L i (g d) w) -> S w -> Up w0 w ->
    (ops.size <= st -> Q .normal (putL a0 (ds.map fun d => (d, g d))) w) /\ (∀ o, ops[st]? = some o -> Oper.wp P o (putL a0 (ds.map fun d => (d, g d))) w (Q .normal) Q)) :
   (Code.region id ops true).wp P Q a0 w0 := by
 refine wp_region_relG (n := n) st ds L S hm hn hB (fun o ho d hd => ?_) hS h0 (fun i o hi hne hwt ev w hSw hev => ?_) (fun g w hr => hfin g w fun i d hne hd => ?_)
 ·have := Array.all_eq_true_iff_forall_mem.1 hds o ho
  simpa [hd] using this
 ·refine hop ev w hSw i o hne hi hwt ⟨hev.const, hev.func, hev.global, fun s hs => hev.other s fun o' ho' => ?_, fun j d hj => ?_⟩
  ·have := Array.all_eq_true_iff_forall_mem.1 hs o' ho'
   simpa using this
  ·unfold depB at hj
   rw [hi] at hj
   cases hoj : ops[j]? with
   | none => rw [hoj] at hj; cases hj
   | some o' =>
     rw [hoj] at hj
     simp only [Bool.and_eq_true, Array.any_eq_true', beq_iff_eq] at hj
     obtain ⟨⟨e, he, hb, hon⟩, hd⟩ := hj
     exact hev.dep j o' d hoj ⟨e, he, hb, hon⟩ hd
 ·unfold dstB at hd
  cases ho : ops[i]? with
  | none => rw [ho] at hd; cases hd
  | some o' =>
    rw [ho] at hd
    exact hr i o' d ho hne (by simpa using hd)
end
theorem AM_bp14 {n : Nat} {l : List Int} (hR : rt n l = true) (i j : Nat) : (AM n l i j).natAbs < bp 14 := by
 have h1 := AM_abs hR i j
 have h2 := bp_mono (show 1 <= 14 by omega)
 rw [bp_succ 0, bp_zero] at h2
 omega
theorem unit_bp14 {k : Int} (hk : I64 k) (i j : Nat) : (unitM k i j).natAbs < bp 14 := by
 have h1 := unitM_abs hk i j
 have h2 := bp_mono (show 1 <= 14 by omega)
 rw [bp_succ 0, bp_zero] at h2
 omega
theorem less_bp14 {n : Nat} {l : List Int} {k : Int} (hR : rt n l = true) (hk : I64 k) (i j : Nat) : (AM n l i j - unitM k i j).natAbs < bp 14 := by
 have h0 := AM_abs hR i j
 have h1 := unitM_abs hk i j
 have h2 := bp_mono (show 1 <= 14 by omega)
 rw [bp_succ 0, bp_zero] at h2
 omega
theorem tri_call {v : Value} {n : Nat} {l : List Int} {w : World} (hm : Sm w v n l) (hR : rt n l = true) :
   Calls Tryd.prog 18 #[v] w (fun e w'' => Up w w'' /\ ∃ z, e = .returned z /\ (fun z w'' => Rz w'' z (triE n (AM n l))) z w'') :=
 (triangle_any hm hR).mono fun _ _ ⟨z, h1, h2, _, _, h3⟩ => ⟨h2, z, h1, h3.rz⟩
theorem one_call {n : Nat} {k : Int} (n8 : n <= 8) (hk : I64 k) (w : World) :
   Calls Tryd.prog 19 #[.int .i64 (n : Nat), .int .i64 k] w (fun e w'' => Up w w'' /\ ∃ z, e = .returned z /\ (fun z w'' => Rz w'' z (triE n (unitM k))) z w'') :=
 (ones_any n8 hk w).mono fun _ _ ⟨z, h1, h2, _, _, h3⟩ => ⟨h2, z, h1, h3.rz⟩
theorem less_call {va vb : Value} {n : Nat} {f g : Nat -> Nat -> Int} {w : World} (hA : Rz w va (triE n f)) (hB : Rz w vb (triE n g)) (n8 : n <= 8) (hf : ∀ i j, (f i j).natAbs < bp 14) (hg : ∀ i j, (g i j).natAbs < bp 14) :
   Calls Tryd.prog 17 #[va, vb] w (fun e w'' => Up w w'' /\ ∃ z, e = .returned z /\ (fun z w'' => Rz w'' z (triE n fun i j => f i j - g i j)) z w'') :=
 (blessy_any hA hB n8 hf hg).mono fun _ _ ⟨z, h1, h2, _, _, h3⟩ => ⟨h2, z, h1, h3.rz⟩
theorem def_call {vr : Value} {n : Nat} {V : Nat -> Nat -> Int} {w : World} (hR : Rz w vr (triE n V)) (h8 : n <= 8) (hV : ∀ i j, (V i j).natAbs <= bdM) (hs : Symm V) {D : Bool} (hD : dfB n V = D) :
   Calls Tryd.prog 16 #[vr] w (fun e w'' => Up w w'' /\ ∃ z, e = .returned z /\ (fun z _ => z = .bool D) z w'') :=
 (defb_any hR h8 hV hs).mono fun _ _ ⟨h1, h2⟩ => ⟨h2, _, h1, by rw [hD]⟩
theorem rt_call {v : Value} {N : Int} {l : List Int} {w : World} (h : Sm w v N l) :
   Calls Tryd.prog 15 #[v] w (fun e w'' => Up w w'' /\ ∃ z, e = .returned z /\ (fun z _ => z = .bool (rt N l)) z w'') :=
 (sright_any h).mono fun _ _ ⟨h1, h2⟩ => ⟨h2, _, h1, rfl⟩
set_option maxHeartbeats 16000000 in
theorem least_any {v : Value} {N : Int} {l : List Int} {k : Int} {w : World} (hm : Sm w v N l) (hk : I64 k) :
   Calls Tryd.prog 7 #[v, .int .i64 k] w fun r w' => r = .returned (.bool (lsV N l k)) /\ Up w w' := by
 have HR := hid (fun w' (hu : Up w w') => rt_call (hm.up hu))
 have HSm := hid hm
 obtain ⟨s0, rfl, ⟨p, cap, rfl, -, -⟩, -, -, -⟩ := hm
 cases hR : rt N l with
 | false =>
   rw [hR] at HR
   rw [show lsV N l k = false from by unfold lsV; rw [hR, Bool.false_and]]
   clear hR hk HSm
   go_enter Tryd.func7, Tryd.ntmps7
   go_wp2_with fail
   refine wp_folded (fun wd => Up w wd /\ Blk wd w.heap.size 25 #[.int .i64 N, .slice p l.length cap]) ⟨Up.alloc _ _, Blk.new _ _ rfl⟩ ?_
   rintro W1 ⟨hU1, hB1⟩
   obtain ⟨b0, hb0⟩ : ∃ y, w.heap.size = y := ⟨_, rfl⟩
   rw [hb0] at hB1 ⊢
   clear hb0
   refine wp_region_sg (n := 17) 13 [5, 6, 7, 8, 9, 10, 11, 12, 13, 14, 15, 16, 4] [SG.is (.agg #[.int .i64 N, .slice p l.length cap]), SG.is (.bool false), SG.tt false, SG.no, SG.no, SG.no, SG.no, SG.no, SG.no, SG.no, SG.no, SG.is (.bool false), SG.is (.bool false)] (fun wq => Blk wq b0 25 #[.int .i64 N, .slice p l.length cap] /\ Up w wq /\ Below w.heap.size w wq) (by kernel_rfl) (by rfl) (by kernel_rfl) (by kernel_rfl) (fun _ _ h hu => ⟨(h.1).up hu, (h.2.1).trans hu, below_up (h.2.2) hu⟩) ⟨(by first | assumption | exact gBlk), (by first | exact Up.refl _ | assumption), gUp⟩ (fun ev w9 hS9 i o hne hi hwt hev => ?_) (fun gR wE hq hSE huE => ?_)
   ·have ⟨hS1, hS2, hSB⟩ := hS9
    have hcC := hev.const
    have hcF := hev.func
    have hcG := hev.global
    rcases i with _ | _ | _ | _ | _ | _ | _ | _ | _ | _ | _ | _ | _ | i
    ·obtain rfl := oI hi
     have e2 := hev.other 2 (by kernel_rfl)
     simp [Act.eval] at e2
     exact leavesR_value (run_ldME rfl (by go_simp) hS1 rfl) rfl
    ·obtain rfl := oI hi
     have e5 : ev (.tmp 5) = (.agg #[.int .i64 N, .slice p l.length cap]) := hev.dep 0 5 (by kernel_rfl)
     refine leavesR_call ?_ (HR.out _ hS2)
     go_simp
    ·obtain rfl := oI hi
     have e6 : ev (.tmp 6) = (.bool false) := hev.dep 1 6 (by kernel_rfl)
     exact lV (.bool false)
    ·exact absurd hwt (Bool.eq_false_iff.1 (by kernel_rfl))
    ·exact absurd hwt (Bool.eq_false_iff.1 (by kernel_rfl))
    ·exact absurd hwt (Bool.eq_false_iff.1 (by kernel_rfl))
    ·exact absurd hwt (Bool.eq_false_iff.1 (by kernel_rfl))
    ·exact absurd hwt (Bool.eq_false_iff.1 (by kernel_rfl))
    ·exact absurd hwt (Bool.eq_false_iff.1 (by kernel_rfl))
    ·exact absurd hwt (Bool.eq_false_iff.1 (by kernel_rfl))
    ·exact absurd hwt (Bool.eq_false_iff.1 (by kernel_rfl))
    ·obtain rfl := oI hi
     have e7 : ev (.tmp 7) = (.bool false) := hev.dep 2 7 (by kernel_rfl)
     have e15 : ev (.tmp 15) = (undef) := hev.dep 10 15 (by kernel_rfl)
     exact lV (.bool false)
    ·obtain rfl := oI hi
     have e16 : ev (.tmp 16) = (.bool false) := hev.dep 11 16 (by kernel_rfl)
     exact lV (.bool false)
    ·exact absurd (show i + 13 < 13 from (Array.getElem?_eq_some_iff.1 hi).1) (by omega)
   have ⟨hS1, hS2, hSB⟩ := hSE
   have q0 : gR 5 = (.agg #[.int .i64 N, .slice p l.length cap]) := hq 0 5 (by decide) (by kernel_rfl)
   have q1 : gR 6 = (.bool false) := hq 1 6 (by decide) (by kernel_rfl)
   have q2 : gR 7 = (.bool false) := hq 2 7 (by decide) (by kernel_rfl)
   have q3 : gR 8 = (undef) := hq 3 8 (by decide) (by kernel_rfl)
   have q4 : gR 9 = (undef) := hq 4 9 (by decide) (by kernel_rfl)
   have q5 : gR 10 = (undef) := hq 5 10 (by decide) (by kernel_rfl)
   have q6 : gR 11 = (undef) := hq 6 11 (by decide) (by kernel_rfl)
   have q7 : gR 12 = (undef) := hq 7 12 (by decide) (by kernel_rfl)
   have q8 : gR 13 = (undef) := hq 8 13 (by decide) (by kernel_rfl)
   have q9 : gR 14 = (undef) := hq 9 14 (by decide) (by kernel_rfl)
   have q10 : gR 15 = (undef) := hq 10 15 (by decide) (by kernel_rfl)
   have q11 : gR 16 = (.bool false) := hq 11 16 (by decide) (by kernel_rfl)
   have q12 : gR 4 = (.bool false) := hq 12 4 (by decide) (by kernel_rfl)
   refine ⟨fun _ => ?_, fun o ho => by simp at ho⟩
   simp only [putL, List.map_cons, List.map_nil, q0, q1, q2, q3, q4, q5, q6, q7, q8, q9, q10, q11, q12, Act.put, pu1, pu2, pu3]
   clear hq hSE q0 q1 q2 q3 q4 q5 q6 q7 q8 q9 q10 q11 q12
   go_wp2_with fail
   go_ret
   exact ⟨rfl, hS2⟩
 | true =>
   rw [hR] at HR
   obtain ⟨n, rfl, n8⟩ := rt_ofN hR
   have HT := hid (fun w' (hu : Up w w') => tri_call (HSm.out.up hu) hR)
   have HO := hid (fun w => one_call n8 hk w)
   have HL := hid (fun w' va vb (ha : Rz w' va (triE n (AM n l))) (hb : Rz w' vb (triE n (unitM k))) => less_call ha hb n8 (AM_bp14 hR) (unit_bp14 hk))
   obtain ⟨D, hD⟩ : ∃ D, lsV n l k = D := ⟨_, rfl⟩
   have hD2 : dfB n (lsM n l k) = D := by rw [<- hD]; unfold lsV; rw [hR, Bool.true_and]; rfl
   have HD := hid (fun w' vr (h : Rz w' vr (triE n (lsM n l k))) => def_call h n8 (lsM_abs hR hk) (lsM_symm n l k) hD2)
   rw [hD]
   clear hR hk HSm hD hD2
   go_enter Tryd.func7, Tryd.ntmps7
   go_wp2_with fail
   refine wp_folded (fun wd => Up w wd /\ Blk wd w.heap.size 25 #[.int .i64 (n : Int), .slice p l.length cap]) ⟨Up.alloc _ _, Blk.new _ _ rfl⟩ ?_
   rintro W1 ⟨hU1, hB1⟩
   obtain ⟨b0, hb0⟩ : ∃ y, w.heap.size = y := ⟨_, rfl⟩
   rw [hb0] at hB1 ⊢
   clear hb0
   refine wp_region_sg (n := 17) 13 [5, 6, 7, 8, 9, 10, 11, 12, 13, 14, 15, 16, 4] [SG.is (.agg #[.int .i64 (n : Int), .slice p l.length cap]), SG.is (.bool true), SG.tt true, SG.is (.agg #[.int .i64 (n : Int), .slice p l.length cap]), SG.of (fun v w1 => Rz w1 v (triE n (AM n l))) (fun _ _ _ h hu => Rz.up hu h), SG.is (.pointer (some ⟨b0, 0, none⟩)), SG.is (.int .i64 (n : Nat)), SG.is (.int .i64 k), SG.of (fun v w1 => Rz w1 v (triE n (unitM k))) (fun _ _ _ h hu => Rz.up hu h), SG.of (fun v w1 => Rz w1 v (triE n (lsM n l k))) (fun _ _ _ h hu => Rz.up hu h), SG.is (.bool D), SG.is (.bool D), SG.is (.bool D)] (fun wq => Blk wq b0 25 #[.int .i64 (n : Int), .slice p l.length cap] /\ Up w wq /\ Below w.heap.size w wq) (by kernel_rfl) (by rfl) (by kernel_rfl) (by kernel_rfl) (fun _ _ h hu => ⟨(h.1).up hu, (h.2.1).trans hu, below_up (h.2.2) hu⟩) ⟨(by first | assumption | exact gBlk), (by first | exact Up.refl _ | assumption), gUp⟩ (fun ev w9 hS9 i o hne hi hwt hev => ?_) (fun gR wE hq hSE huE => ?_)
   ·have ⟨hS1, hS2, hSB⟩ := hS9
    have hcC := hev.const
    have hcF := hev.func
    have hcG := hev.global
    rcases i with _ | _ | _ | _ | _ | _ | _ | _ | _ | _ | _ | _ | _ | i
    ·obtain rfl := oI hi
     have e2 := hev.other 2 (by kernel_rfl)
     simp [Act.eval] at e2
     exact leavesR_value (run_ldME rfl (by go_simp) hS1 rfl) rfl
    ·obtain rfl := oI hi
     have e5 : ev (.tmp 5) = (.agg #[.int .i64 (n : Int), .slice p l.length cap]) := hev.dep 0 5 (by kernel_rfl)
     refine leavesR_call ?_ (HR.out _ hS2)
     go_simp
    ·obtain rfl := oI hi
     have e6 : ev (.tmp 6) = (.bool true) := hev.dep 1 6 (by kernel_rfl)
     exact lV (.bool true)
    ·obtain rfl := oI hi
     have e2 := hev.other 2 (by kernel_rfl)
     simp [Act.eval] at e2
     exact leavesR_value (run_ldME rfl (by go_simp) hS1 rfl) rfl
    ·obtain rfl := oI hi
     have e8 : ev (.tmp 8) = (.agg #[.int .i64 (n : Int), .slice p l.length cap]) := hev.dep 3 8 (by kernel_rfl)
     refine leavesR_call ?_ (HT.out _ hS2)
     go_simp
    ·obtain rfl := oI hi
     have e2 := hev.other 2 (by kernel_rfl)
     simp [Act.eval] at e2
     exact lV (.pointer (some ⟨b0, 0, none⟩))
    ·obtain rfl := oI hi
     have e10 : ev (.tmp 10) = (.pointer (some ⟨b0, 0, none⟩)) := hev.dep 5 10 (by kernel_rfl)
     have hcx := hS1.cell 0 rfl; exact leavesR_value (u := .int .i64 (n : Nat)) (by go_simp) rfl
    ·obtain rfl := oI hi
     have e1 := hev.other 1 (by kernel_rfl)
     simp [Act.eval] at e1
     exact lV (.int .i64 k)
    ·obtain rfl := oI hi
     have e11 : ev (.tmp 11) = (.int .i64 (n : Nat)) := hev.dep 6 11 (by kernel_rfl)
     have e12 : ev (.tmp 12) = (.int .i64 k) := hev.dep 7 12 (by kernel_rfl)
     refine leavesR_call ?_ (HO.out _)
     go_simp
    ·obtain rfl := oI hi
     have e9 : (fun v w1 => Rz w1 v (triE n (AM n l))) (ev (.tmp 9)) w9 := hev.dep 4 9 (by kernel_rfl)
     dsimp only at e9
     obtain ⟨v9, hv9⟩ : ∃ v, ev (.tmp 9) = v := ⟨_, rfl⟩
     rw [hv9] at e9
     have e13 : (fun v w1 => Rz w1 v (triE n (unitM k))) (ev (.tmp 13)) w9 := hev.dep 8 13 (by kernel_rfl)
     dsimp only at e13
     obtain ⟨v13, hv13⟩ : ∃ v, ev (.tmp 13) = v := ⟨_, rfl⟩
     rw [hv13] at e13
     refine leavesR_call ?_ (HL.out _ _ _ e9 e13)
     go_simp
    ·obtain rfl := oI hi
     have e14 : (fun v w1 => Rz w1 v (triE n (lsM n l k))) (ev (.tmp 14)) w9 := hev.dep 9 14 (by kernel_rfl)
     dsimp only at e14
     obtain ⟨v14, hv14⟩ : ∃ v, ev (.tmp 14) = v := ⟨_, rfl⟩
     rw [hv14] at e14
     refine leavesR_call ?_ (HD.out _ _ e14)
     go_simp
    ·obtain rfl := oI hi
     have e7 : ev (.tmp 7) = (.bool true) := hev.dep 2 7 (by kernel_rfl)
     have e15 : ev (.tmp 15) = (.bool D) := hev.dep 10 15 (by kernel_rfl)
     exact lV (.bool D)
    ·obtain rfl := oI hi
     have e16 : ev (.tmp 16) = (.bool D) := hev.dep 11 16 (by kernel_rfl)
     exact lV (.bool D)
    ·exact absurd (show i + 13 < 13 from (Array.getElem?_eq_some_iff.1 hi).1) (by omega)
   have ⟨hS1, hS2, hSB⟩ := hSE
   have q0 : gR 5 = (.agg #[.int .i64 (n : Int), .slice p l.length cap]) := hq 0 5 (by decide) (by kernel_rfl)
   have q1 : gR 6 = (.bool true) := hq 1 6 (by decide) (by kernel_rfl)
   have q2 : gR 7 = (.bool true) := hq 2 7 (by decide) (by kernel_rfl)
   have q3 : gR 8 = (.agg #[.int .i64 (n : Int), .slice p l.length cap]) := hq 3 8 (by decide) (by kernel_rfl)
   have q4 : (fun v w1 => Rz w1 v (triE n (AM n l))) (gR 9) wE := hq 4 9 (by decide) (by kernel_rfl)
   dsimp only at q4
   obtain ⟨v9, hv9⟩ : ∃ v, gR 9 = v := ⟨_, rfl⟩
   rw [hv9] at q4
   have q5 : gR 10 = (.pointer (some ⟨b0, 0, none⟩)) := hq 5 10 (by decide) (by kernel_rfl)
   have q6 : gR 11 = (.int .i64 (n : Nat)) := hq 6 11 (by decide) (by kernel_rfl)
   have q7 : gR 12 = (.int .i64 k) := hq 7 12 (by decide) (by kernel_rfl)
   have q8 : (fun v w1 => Rz w1 v (triE n (unitM k))) (gR 13) wE := hq 8 13 (by decide) (by kernel_rfl)
   dsimp only at q8
   obtain ⟨v13, hv13⟩ : ∃ v, gR 13 = v := ⟨_, rfl⟩
   rw [hv13] at q8
   have q9 : (fun v w1 => Rz w1 v (triE n (lsM n l k))) (gR 14) wE := hq 9 14 (by decide) (by kernel_rfl)
   dsimp only at q9
   obtain ⟨v14, hv14⟩ : ∃ v, gR 14 = v := ⟨_, rfl⟩
   rw [hv14] at q9
   have q10 : gR 15 = (.bool D) := hq 10 15 (by decide) (by kernel_rfl)
   have q11 : gR 16 = (.bool D) := hq 11 16 (by decide) (by kernel_rfl)
   have q12 : gR 4 = (.bool D) := hq 12 4 (by decide) (by kernel_rfl)
   refine ⟨fun _ => ?_, fun o ho => by simp at ho⟩
   simp only [putL, List.map_cons, List.map_nil, q0, q1, q2, q3, hv9, q5, q6, q7, hv13, hv14, q10, q11, q12, Act.put, pu1, pu2, pu3]
   clear hq hSE q0 q1 q2 q3 q5 q6 q7 q10 q11 q12
   go_wp2_with fail
   go_ret
   exact ⟨rfl, hS2⟩
set_option maxHeartbeats 16000000 in
theorem most_any {v : Value} {N : Int} {l : List Int} {k : Int} {w : World} (hm : Sm w v N l) (hk : I64 k) :
   Calls Tryd.prog 8 #[v, .int .i64 k] w fun r w' => r = .returned (.bool (msV N l k)) /\ Up w w' := by
 have HR := hid (fun w' (hu : Up w w') => rt_call (hm.up hu))
 have HSm := hid hm
 obtain ⟨s0, rfl, ⟨p, cap, rfl, -, -⟩, -, -, -⟩ := hm
 cases hR : rt N l with
 | false =>
   rw [hR] at HR
   rw [show msV N l k = false from by unfold msV; rw [hR, Bool.false_and]]
   clear hR hk HSm
   go_enter Tryd.func8, Tryd.ntmps8
   go_wp2_with fail
   refine wp_folded (fun wd => Up w wd /\ Blk wd w.heap.size 25 #[.int .i64 N, .slice p l.length cap]) ⟨Up.alloc _ _, Blk.new _ _ rfl⟩ ?_
   rintro W1 ⟨hU1, hB1⟩
   obtain ⟨b0, hb0⟩ : ∃ y, w.heap.size = y := ⟨_, rfl⟩
   rw [hb0] at hB1 ⊢
   clear hb0
   refine wp_region_sg (n := 17) 13 [5, 6, 7, 8, 9, 10, 11, 12, 13, 14, 15, 16, 4] [SG.is (.agg #[.int .i64 N, .slice p l.length cap]), SG.is (.bool false), SG.tt false, SG.no, SG.no, SG.no, SG.no, SG.no, SG.no, SG.no, SG.no, SG.is (.bool false), SG.is (.bool false)] (fun wq => Blk wq b0 25 #[.int .i64 N, .slice p l.length cap] /\ Up w wq /\ Below w.heap.size w wq) (by kernel_rfl) (by rfl) (by kernel_rfl) (by kernel_rfl) (fun _ _ h hu => ⟨(h.1).up hu, (h.2.1).trans hu, below_up (h.2.2) hu⟩) ⟨(by first | assumption | exact gBlk), (by first | exact Up.refl _ | assumption), gUp⟩ (fun ev w9 hS9 i o hne hi hwt hev => ?_) (fun gR wE hq hSE huE => ?_)
   ·have ⟨hS1, hS2, hSB⟩ := hS9
    have hcC := hev.const
    have hcF := hev.func
    have hcG := hev.global
    rcases i with _ | _ | _ | _ | _ | _ | _ | _ | _ | _ | _ | _ | _ | i
    ·obtain rfl := oI hi
     have e2 := hev.other 2 (by kernel_rfl)
     simp [Act.eval] at e2
     exact leavesR_value (run_ldME rfl (by go_simp) hS1 rfl) rfl
    ·obtain rfl := oI hi
     have e5 : ev (.tmp 5) = (.agg #[.int .i64 N, .slice p l.length cap]) := hev.dep 0 5 (by kernel_rfl)
     refine leavesR_call ?_ (HR.out _ hS2)
     go_simp
    ·obtain rfl := oI hi
     have e6 : ev (.tmp 6) = (.bool false) := hev.dep 1 6 (by kernel_rfl)
     exact lV (.bool false)
    ·exact absurd hwt (Bool.eq_false_iff.1 (by kernel_rfl))
    ·exact absurd hwt (Bool.eq_false_iff.1 (by kernel_rfl))
    ·exact absurd hwt (Bool.eq_false_iff.1 (by kernel_rfl))
    ·exact absurd hwt (Bool.eq_false_iff.1 (by kernel_rfl))
    ·exact absurd hwt (Bool.eq_false_iff.1 (by kernel_rfl))
    ·exact absurd hwt (Bool.eq_false_iff.1 (by kernel_rfl))
    ·exact absurd hwt (Bool.eq_false_iff.1 (by kernel_rfl))
    ·exact absurd hwt (Bool.eq_false_iff.1 (by kernel_rfl))
    ·obtain rfl := oI hi
     have e7 : ev (.tmp 7) = (.bool false) := hev.dep 2 7 (by kernel_rfl)
     have e15 : ev (.tmp 15) = (undef) := hev.dep 10 15 (by kernel_rfl)
     exact lV (.bool false)
    ·obtain rfl := oI hi
     have e16 : ev (.tmp 16) = (.bool false) := hev.dep 11 16 (by kernel_rfl)
     exact lV (.bool false)
    ·exact absurd (show i + 13 < 13 from (Array.getElem?_eq_some_iff.1 hi).1) (by omega)
   have ⟨hS1, hS2, hSB⟩ := hSE
   have q0 : gR 5 = (.agg #[.int .i64 N, .slice p l.length cap]) := hq 0 5 (by decide) (by kernel_rfl)
   have q1 : gR 6 = (.bool false) := hq 1 6 (by decide) (by kernel_rfl)
   have q2 : gR 7 = (.bool false) := hq 2 7 (by decide) (by kernel_rfl)
   have q3 : gR 8 = (undef) := hq 3 8 (by decide) (by kernel_rfl)
   have q4 : gR 9 = (undef) := hq 4 9 (by decide) (by kernel_rfl)
   have q5 : gR 10 = (undef) := hq 5 10 (by decide) (by kernel_rfl)
   have q6 : gR 11 = (undef) := hq 6 11 (by decide) (by kernel_rfl)
   have q7 : gR 12 = (undef) := hq 7 12 (by decide) (by kernel_rfl)
   have q8 : gR 13 = (undef) := hq 8 13 (by decide) (by kernel_rfl)
   have q9 : gR 14 = (undef) := hq 9 14 (by decide) (by kernel_rfl)
   have q10 : gR 15 = (undef) := hq 10 15 (by decide) (by kernel_rfl)
   have q11 : gR 16 = (.bool false) := hq 11 16 (by decide) (by kernel_rfl)
   have q12 : gR 4 = (.bool false) := hq 12 4 (by decide) (by kernel_rfl)
   refine ⟨fun _ => ?_, fun o ho => by simp at ho⟩
   simp only [putL, List.map_cons, List.map_nil, q0, q1, q2, q3, q4, q5, q6, q7, q8, q9, q10, q11, q12, Act.put, pu1, pu2, pu3]
   clear hq hSE q0 q1 q2 q3 q4 q5 q6 q7 q8 q9 q10 q11 q12
   go_wp2_with fail
   go_ret
   exact ⟨rfl, hS2⟩
 | true =>
   rw [hR] at HR
   obtain ⟨n, rfl, n8⟩ := rt_ofN hR
   have HT := hid (fun w' (hu : Up w w') => tri_call (HSm.out.up hu) hR)
   have HO := hid (fun w => one_call n8 hk w)
   have HL := hid (fun w' va vb (ha : Rz w' va (triE n (unitM k))) (hb : Rz w' vb (triE n (AM n l))) => less_call ha hb n8 (unit_bp14 hk) (AM_bp14 hR))
   obtain ⟨D, hD⟩ : ∃ D, msV n l k = D := ⟨_, rfl⟩
   have hD2 : dfB n (msM n l k) = D := by rw [<- hD]; unfold msV; rw [hR, Bool.true_and]; rfl
   have HD := hid (fun w' vr (h : Rz w' vr (triE n (msM n l k))) => def_call h n8 (msM_abs hR hk) (msM_symm n l k) hD2)
   rw [hD]
   clear hR hk HSm hD hD2
   go_enter Tryd.func8, Tryd.ntmps8
   go_wp2_with fail
   refine wp_folded (fun wd => Up w wd /\ Blk wd w.heap.size 25 #[.int .i64 (n : Int), .slice p l.length cap]) ⟨Up.alloc _ _, Blk.new _ _ rfl⟩ ?_
   rintro W1 ⟨hU1, hB1⟩
   obtain ⟨b0, hb0⟩ : ∃ y, w.heap.size = y := ⟨_, rfl⟩
   rw [hb0] at hB1 ⊢
   clear hb0
   refine wp_region_sg (n := 17) 13 [5, 6, 7, 8, 9, 10, 11, 12, 13, 14, 15, 16, 4] [SG.is (.agg #[.int .i64 (n : Int), .slice p l.length cap]), SG.is (.bool true), SG.tt true, SG.is (.pointer (some ⟨b0, 0, none⟩)), SG.is (.int .i64 (n : Nat)), SG.is (.int .i64 k), SG.of (fun v w1 => Rz w1 v (triE n (unitM k))) (fun _ _ _ h hu => Rz.up hu h), SG.is (.agg #[.int .i64 (n : Int), .slice p l.length cap]), SG.of (fun v w1 => Rz w1 v (triE n (AM n l))) (fun _ _ _ h hu => Rz.up hu h), SG.of (fun v w1 => Rz w1 v (triE n (msM n l k))) (fun _ _ _ h hu => Rz.up hu h), SG.is (.bool D), SG.is (.bool D), SG.is (.bool D)] (fun wq => Blk wq b0 25 #[.int .i64 (n : Int), .slice p l.length cap] /\ Up w wq /\ Below w.heap.size w wq) (by kernel_rfl) (by rfl) (by kernel_rfl) (by kernel_rfl) (fun _ _ h hu => ⟨(h.1).up hu, (h.2.1).trans hu, below_up (h.2.2) hu⟩) ⟨(by first | assumption | exact gBlk), (by first | exact Up.refl _ | assumption), gUp⟩ (fun ev w9 hS9 i o hne hi hwt hev => ?_) (fun gR wE hq hSE huE => ?_)
   ·have ⟨hS1, hS2, hSB⟩ := hS9
    have hcC := hev.const
    have hcF := hev.func
    have hcG := hev.global
    rcases i with _ | _ | _ | _ | _ | _ | _ | _ | _ | _ | _ | _ | _ | i
    ·obtain rfl := oI hi
     have e2 := hev.other 2 (by kernel_rfl)
     simp [Act.eval] at e2
     exact leavesR_value (run_ldME rfl (by go_simp) hS1 rfl) rfl
    ·obtain rfl := oI hi
     have e5 : ev (.tmp 5) = (.agg #[.int .i64 (n : Int), .slice p l.length cap]) := hev.dep 0 5 (by kernel_rfl)
     refine leavesR_call ?_ (HR.out _ hS2)
     go_simp
    ·obtain rfl := oI hi
     have e6 : ev (.tmp 6) = (.bool true) := hev.dep 1 6 (by kernel_rfl)
     exact lV (.bool true)
    ·obtain rfl := oI hi
     have e2 := hev.other 2 (by kernel_rfl)
     simp [Act.eval] at e2
     exact lV (.pointer (some ⟨b0, 0, none⟩))
    ·obtain rfl := oI hi
     have e8 : ev (.tmp 8) = (.pointer (some ⟨b0, 0, none⟩)) := hev.dep 3 8 (by kernel_rfl)
     have hcx := hS1.cell 0 rfl; exact leavesR_value (u := .int .i64 (n : Nat)) (by go_simp) rfl
    ·obtain rfl := oI hi
     have e1 := hev.other 1 (by kernel_rfl)
     simp [Act.eval] at e1
     exact lV (.int .i64 k)
    ·obtain rfl := oI hi
     have e9 : ev (.tmp 9) = (.int .i64 (n : Nat)) := hev.dep 4 9 (by kernel_rfl)
     have e10 : ev (.tmp 10) = (.int .i64 k) := hev.dep 5 10 (by kernel_rfl)
     refine leavesR_call ?_ (HO.out _)
     go_simp
    ·obtain rfl := oI hi
     have e2 := hev.other 2 (by kernel_rfl)
     simp [Act.eval] at e2
     exact leavesR_value (run_ldME rfl (by go_simp) hS1 rfl) rfl
    ·obtain rfl := oI hi
     have e12 : ev (.tmp 12) = (.agg #[.int .i64 (n : Int), .slice p l.length cap]) := hev.dep 7 12 (by kernel_rfl)
     refine leavesR_call ?_ (HT.out _ hS2)
     go_simp
    ·obtain rfl := oI hi
     have e11 : (fun v w1 => Rz w1 v (triE n (unitM k))) (ev (.tmp 11)) w9 := hev.dep 6 11 (by kernel_rfl)
     dsimp only at e11
     obtain ⟨v11, hv11⟩ : ∃ v, ev (.tmp 11) = v := ⟨_, rfl⟩
     rw [hv11] at e11
     have e13 : (fun v w1 => Rz w1 v (triE n (AM n l))) (ev (.tmp 13)) w9 := hev.dep 8 13 (by kernel_rfl)
     dsimp only at e13
     obtain ⟨v13, hv13⟩ : ∃ v, ev (.tmp 13) = v := ⟨_, rfl⟩
     rw [hv13] at e13
     refine leavesR_call ?_ (HL.out _ _ _ e11 e13)
     go_simp
    ·obtain rfl := oI hi
     have e14 : (fun v w1 => Rz w1 v (triE n (msM n l k))) (ev (.tmp 14)) w9 := hev.dep 9 14 (by kernel_rfl)
     dsimp only at e14
     obtain ⟨v14, hv14⟩ : ∃ v, ev (.tmp 14) = v := ⟨_, rfl⟩
     rw [hv14] at e14
     refine leavesR_call ?_ (HD.out _ _ e14)
     go_simp
    ·obtain rfl := oI hi
     have e7 : ev (.tmp 7) = (.bool true) := hev.dep 2 7 (by kernel_rfl)
     have e15 : ev (.tmp 15) = (.bool D) := hev.dep 10 15 (by kernel_rfl)
     exact lV (.bool D)
    ·obtain rfl := oI hi
     have e16 : ev (.tmp 16) = (.bool D) := hev.dep 11 16 (by kernel_rfl)
     exact lV (.bool D)
    ·exact absurd (show i + 13 < 13 from (Array.getElem?_eq_some_iff.1 hi).1) (by omega)
   have ⟨hS1, hS2, hSB⟩ := hSE
   have q0 : gR 5 = (.agg #[.int .i64 (n : Int), .slice p l.length cap]) := hq 0 5 (by decide) (by kernel_rfl)
   have q1 : gR 6 = (.bool true) := hq 1 6 (by decide) (by kernel_rfl)
   have q2 : gR 7 = (.bool true) := hq 2 7 (by decide) (by kernel_rfl)
   have q3 : gR 8 = (.pointer (some ⟨b0, 0, none⟩)) := hq 3 8 (by decide) (by kernel_rfl)
   have q4 : gR 9 = (.int .i64 (n : Nat)) := hq 4 9 (by decide) (by kernel_rfl)
   have q5 : gR 10 = (.int .i64 k) := hq 5 10 (by decide) (by kernel_rfl)
   have q6 : (fun v w1 => Rz w1 v (triE n (unitM k))) (gR 11) wE := hq 6 11 (by decide) (by kernel_rfl)
   dsimp only at q6
   obtain ⟨v11, hv11⟩ : ∃ v, gR 11 = v := ⟨_, rfl⟩
   rw [hv11] at q6
   have q7 : gR 12 = (.agg #[.int .i64 (n : Int), .slice p l.length cap]) := hq 7 12 (by decide) (by kernel_rfl)
   have q8 : (fun v w1 => Rz w1 v (triE n (AM n l))) (gR 13) wE := hq 8 13 (by decide) (by kernel_rfl)
   dsimp only at q8
   obtain ⟨v13, hv13⟩ : ∃ v, gR 13 = v := ⟨_, rfl⟩
   rw [hv13] at q8
   have q9 : (fun v w1 => Rz w1 v (triE n (msM n l k))) (gR 14) wE := hq 9 14 (by decide) (by kernel_rfl)
   dsimp only at q9
   obtain ⟨v14, hv14⟩ : ∃ v, gR 14 = v := ⟨_, rfl⟩
   rw [hv14] at q9
   have q10 : gR 15 = (.bool D) := hq 10 15 (by decide) (by kernel_rfl)
   have q11 : gR 16 = (.bool D) := hq 11 16 (by decide) (by kernel_rfl)
   have q12 : gR 4 = (.bool D) := hq 12 4 (by decide) (by kernel_rfl)
   refine ⟨fun _ => ?_, fun o ho => by simp at ho⟩
   simp only [putL, List.map_cons, List.map_nil, q0, q1, q2, q3, q4, q5, hv11, q7, hv13, hv14, q10, q11, q12, Act.put, pu1, pu2, pu3]
   clear hq hSE q0 q1 q2 q3 q4 q5 q7 q10 q11 q12
   go_wp2_with fail
   go_ret
   exact ⟨rfl, hS2⟩
def boundB : ByteArray := ⟨#[98, 111, 117, 110, 100]⟩
def ErrsB (w : World) (u : Value) (e : Int) : Prop := (e = 0 /\ u = .nilIface) \/ (e ≠ 0 /\ ∃ t x, u = .iface t x /\ IsEr w u (.flt boundB (.num e)))
theorem bwrong_any (n : Int) (h0 : n ≠ 0) (w : World) :
   Calls Tryd.prog 22 #[.int .i64 n] w fun r w' => ∃ u, r = .returned u /\ Up w w' /\ ErrsB w' u n := by
 have HW := hid (fun w => wrap_any (op := { data := #[98, 111, 117, 110, 100] }) (v := .iface 46 (.int .i64 n)) (e := .num n) (w := w) rfl)
 go_enter Tryd.func22, Tryd.ntmps22
 go_wp2_with (first | (go_at_call 33; (with_reducible refine (HW.out _).mono ?_); rintro r w1 ⟨u1, rfl, hu1, h1⟩))
 go_ret
 obtain ⟨t, u, rfl⟩ := h1.iface
 exact ⟨_, rfl, hu1, .inr ⟨h0, t, u, rfl, h1⟩⟩
set_option maxHeartbeats 8000000 in
theorem between_any {v : Value} {N : Int} {l : List Int} {x y : Int} {w : World} (hm : Sm w v N l) (hx : I64 x) (hy : I64 y) :
   Calls Tryd.prog 10 #[v, .int .i64 x, .int .i64 y] w fun r w' => ∃ u, r = .returned u /\ Up w w' /\ ErrsB w' u (btC N l x y) := by
 have HR := hid (fun w' (hu : Up w w') => sright_any (hm.up hu))
 have HL := hid (fun w' (hu : Up w w') => least_any (hm.up hu) hx)
 have HM := hid (fun w' (hu : Up w w') => most_any (hm.up hu) hy)
 have H23 := hid (fun w => bwrong_any 23 (by decide) w)
 have H30 := hid (fun w => bwrong_any 30 (by decide) w)
 have H31 := hid (fun w => bwrong_any 31 (by decide) w)
 obtain ⟨s0, rfl, ⟨p, cap, rfl, -, -⟩, -, -, -⟩ := hm
 obtain ⟨W0, hW0⟩ : ∃ W0, w.alloc (.cells #[.int .i64 N, .slice p l.length cap] 25) = W0 := ⟨_, rfl⟩
 have hB : Blk W0 w.heap.size 25 #[.int .i64 N, .slice p l.length cap] := by rw [<- hW0]; exact Blk.new _ _ rfl
 have hU : Up w W0 := by rw [<- hW0]; exact Up.alloc _ _
 have HC : Hid (btC N l x y = if rt N l = true then (if lsV N l x = true then (if msV N l y = true then 0 else 31) else 30) else 23) := hid rfl
 obtain ⟨C, hC⟩ : ∃ C, btC N l x y = C := ⟨_, rfl⟩
 rw [hC] at HC ⊢
 obtain ⟨a, ha⟩ : ∃ a, rt N l = a := ⟨_, rfl⟩
 obtain ⟨b, hb⟩ : ∃ b, lsV N l x = b := ⟨_, rfl⟩
 obtain ⟨c, hc⟩ : ∃ c, msV N l y = c := ⟨_, rfl⟩
 rw [ha] at HR HC
 rw [hb] at HL HC
 rw [hc] at HM HC
 clear hC ha hb hc hx hy
 cases a with
 | false =>
   have hC : C = 23 := HC.out
   subst hC
   go_enter Tryd.func10, Tryd.ntmps10
   go_wp2_with (first
    | ((with_reducible apply ldM_P); exact rfl; exact rfl; exact hB; exact rfl)
    | (go_at_call 15; (with_reducible refine (HR.out _ hU).mono ?_); rintro r w1 ⟨rfl, hu1⟩)
    | (go_at_call 22; (with_reducible refine (H23.out _).mono ?_); rintro r w2 ⟨u2, rfl, hu2, h2⟩))
   go_ret
   exact ⟨_, rfl, (hU.trans hu1).trans hu2, h2⟩
 | true =>
   cases b with
   | false =>
     have hC : C = 30 := HC.out
     subst hC
     go_enter Tryd.func10, Tryd.ntmps10
     go_wp2_with (first
      | ((with_reducible apply ldM_P); exact rfl; exact rfl; (first | exact hB | exact hB1); exact rfl)
      | (go_at_call 15; (with_reducible refine (HR.out _ hU).mono ?_); rintro r w1 ⟨rfl, hu1⟩; have hB1 := hB.up hu1; have hU1 := hU.trans hu1)
      | (go_at_call 7; (with_reducible refine (HL.out _ hU1).mono ?_); rintro r w2 ⟨rfl, hu2⟩)
      | (go_at_call 22; (with_reducible refine (H30.out _).mono ?_); rintro r w3 ⟨u3, rfl, hu3, h3⟩))
     go_ret
     exact ⟨_, rfl, (hU1.trans hu2).trans hu3, h3⟩
   | true =>
     cases c with
     | false =>
       have hC : C = 31 := HC.out
       subst hC
       go_enter Tryd.func10, Tryd.ntmps10
       go_wp2_with (first
        | ((with_reducible apply ldM_P); exact rfl; exact rfl; (first | exact hB | exact hB1 | exact hB2); exact rfl)
        | (go_at_call 15; (with_reducible refine (HR.out _ hU).mono ?_); rintro r w1 ⟨rfl, hu1⟩; have hB1 := hB.up hu1; have hU1 := hU.trans hu1)
        | (go_at_call 7; (with_reducible refine (HL.out _ hU1).mono ?_); rintro r w2 ⟨rfl, hu2⟩; have hB2 := hB1.up hu2; have hU2 := hU1.trans hu2)
        | (go_at_call 8; (with_reducible refine (HM.out _ hU2).mono ?_); rintro r w3 ⟨rfl, hu3⟩)
        | (go_at_call 22; (with_reducible refine (H31.out _).mono ?_); rintro r w4 ⟨u4, rfl, hu4, h4⟩))
       go_ret
       exact ⟨_, rfl, (hU2.trans hu3).trans hu4, h4⟩
     | true =>
       have hC : C = 0 := HC.out
       subst hC
       go_enter Tryd.func10, Tryd.ntmps10
       go_wp2_with (first
        | ((with_reducible apply ldM_P); exact rfl; exact rfl; (first | exact hB | exact hB1 | exact hB2); exact rfl)
        | (go_at_call 15; (with_reducible refine (HR.out _ hU).mono ?_); rintro r w1 ⟨rfl, hu1⟩; have hB1 := hB.up hu1; have hU1 := hU.trans hu1)
        | (go_at_call 7; (with_reducible refine (HL.out _ hU1).mono ?_); rintro r w2 ⟨rfl, hu2⟩; have hB2 := hB1.up hu2; have hU2 := hU1.trans hu2)
        | (go_at_call 8; (with_reducible refine (HM.out _ hU2).mono ?_); rintro r w3 ⟨rfl, hu3⟩))
       go_ret
       exact ⟨_, rfl, hU2.trans hu3, .inl ⟨rfl, rfl⟩⟩
set_option maxHeartbeats 16000000 in
theorem below_any {va vb : Value} {N K : Int} {a b : List Int} {w : World} (ha : Sm w va N a) (hb : Sm w vb K b) :
   Calls Tryd.prog 11 #[va, vb] w fun r w' => r = .returned (.bool (beV N a K b)) /\ Up w w' := by
 have HRa := hid (fun w' (hu : Up w w') => sright_any (ha.up hu))
 have HRb := hid (fun w' (hu : Up w w') => sright_any (hb.up hu))
 have HSa := hid ha
 have HSb := hid hb
 obtain ⟨sa, rfl, ⟨p, cap, rfl, -, -⟩, -, -, -⟩ := ha
 obtain ⟨sb, rfl, ⟨q, capq, rfl, -, -⟩, -, -, -⟩ := hb
 obtain ⟨W0, hW0⟩ : ∃ W0, (w.alloc (.cells #[.int .i64 N, .slice p a.length cap] 25)).alloc (.cells #[.int .i64 K, .slice q b.length capq] 25) = W0 := ⟨_, rfl⟩
 have hBa : Blk W0 w.heap.size 25 #[.int .i64 N, .slice p a.length cap] := by rw [<- hW0]; exact (Blk.new _ _ rfl).up (Up.alloc _ _)
 have hBb : Blk W0 (w.heap.size + 1) 25 #[.int .i64 K, .slice q b.length capq] := by rw [<- hW0]; exact Blk.new _ _ (by simp)
 have hU : Up w W0 := by rw [<- hW0]; exact (Up.alloc _ _).trans (Up.alloc _ _)
 cases hRa : rt N a with
 | false =>
   rw [hRa] at HRa
   rw [show beV N a K b = false from by unfold beV; rw [hRa, Bool.false_and]]
   clear hRa
   go_enter Tryd.func11, Tryd.ntmps11
   go_wp2_with (first
    | ((with_reducible apply ldM_P); exact rfl; exact rfl; exact hBa; exact rfl)
    | (go_at_call 15; (with_reducible refine (HRa.out _ hU).mono ?_); rintro r w1 ⟨rfl, hu1⟩))
   go_ret
   exact ⟨rfl, hU.trans hu1⟩
 | true =>
   rw [hRa] at HRa
   cases hRb : rt K b with
   | false =>
     rw [hRb] at HRb
     rw [show beV N a K b = false from by unfold beV; rw [hRb, Bool.false_and, Bool.and_false]]
     clear hRa hRb
     go_enter Tryd.func11, Tryd.ntmps11
     go_wp2_with (first
      | ((with_reducible apply ldM_P); exact rfl; exact rfl; (first | exact hBa | exact hBb | exact hBb1); exact rfl)
      | (go_at_call 15; first
         | ((with_reducible refine (HRa.out _ hU).mono ?_); rintro r w1 ⟨rfl, hu1⟩; have hBb1 := hBb.up hu1; have hU1 := hU.trans hu1)
         | ((with_reducible refine (HRb.out _ hU1).mono ?_); rintro r w2 ⟨rfl, hu2⟩)))
     go_ret
     exact ⟨rfl, hU1.trans hu2⟩
   | true =>
     rw [hRb] at HRb
     by_cases hNK : N = K
     ·subst hNK
      obtain ⟨n, rfl, n8⟩ := rt_ofN hRa
      obtain ⟨D, hD⟩ : ∃ D, beV n a n b = D := ⟨_, rfl⟩
      have hD2 : dfB n (beM n a b) = D := by rw [<- hD]; unfold beV; rw [hRa, hRb, Bool.true_and, Bool.true_and, decide_eq_true rfl, Bool.true_and]; rfl
      have HTa := hid (fun w' (hu : Up w w') => tri_call (HSa.out.up hu) hRa)
      have HTb := hid (fun w' (hu : Up w w') => tri_call (HSb.out.up hu) hRb)
      have HO := hid (fun w => one_call n8 i64_one w)
      have HL1 := hid (fun w' va vb (h1 : Rz w' va (triE n (AM n a))) (h2 : Rz w' vb (triE n (unitM 1))) => less_call h1 h2 n8 (AM_bp14 hRa) (unit_bp14 i64_one))
      have HL2 := hid (fun w' va vb (h1 : Rz w' va (triE n (AM n b))) (h2 : Rz w' vb (triE n fun i j => AM n a i j - unitM 1 i j)) => less_call h1 h2 n8 (AM_bp14 hRb) (less_bp14 hRa i64_one))
      have HD := hid (fun w' vr (h : Rz w' vr (triE n (beM n a b))) => def_call h n8 (beM_abs hRa hRb) (beM_symm n a b) hD2)
      rw [hD]
      clear hRa hRb HSa HSb hD hD2
      go_enter Tryd.func11, Tryd.ntmps11
      go_wp2_with (first
       | ((with_reducible apply ldM_P); exact rfl; exact rfl; (first | exact hBa | exact hBb1 | exact hBb2); exact rfl)
       | (go_at_call 15; first
          | ((with_reducible refine (HRa.out _ hU).mono ?_); rintro r w1 ⟨rfl, hu1⟩; have hBb1 := hBb.up hu1; have hBa1 := hBa.up hu1; have hU1 := hU.trans hu1)
          | ((with_reducible refine (HRb.out _ hU1).mono ?_); rintro r w2 ⟨rfl, hu2⟩; have hBb2 := hBb1.up hu2; have hBa2 := hBa1.up hu2; have hU2 := hU1.trans hu2; have hc0 := hBa2.cell 0 rfl; have hc1 := hBb2.cell 0 rfl)))
      try simp only [Act.put]
      obtain ⟨b0, hb0⟩ : ∃ y, w.heap.size = y := ⟨_, rfl⟩
      rw [hb0] at hBa2 hBb2 ⊢
      clear hb0 hW0 hBa hBb hBb1 hBa1 hU hU1 hu1 hu2 hc0 hc1
      refine wp_region_sp (n := 30) 11 [20, 21, 22, 23, 24, 25, 26, 27, 28, 29, 4] [SP.is (.agg #[.int .i64 (n : Int), .slice q b.length capq]), SP.of (fun v w1 => Rz w1 v (triE n (AM n b))) (fun _ _ _ h hu => Rz.up hu h), SP.is (.agg #[.int .i64 (n : Int), .slice p a.length cap]), SP.of (fun v w1 => Rz w1 v (triE n (AM n a))) (fun _ _ _ h hu => Rz.up hu h), SP.is (.pointer (some ⟨b0, 0, none⟩)), SP.is (.int .i64 (n : Nat)), SP.of (fun v w1 => Rz w1 v (triE n (unitM 1))) (fun _ _ _ h hu => Rz.up hu h), SP.of (fun v w1 => Rz w1 v (triE n fun i j => AM n a i j - unitM 1 i j)) (fun _ _ _ h hu => Rz.up hu h), SP.of (fun v w1 => Rz w1 v (triE n (beM n a b))) (fun _ _ _ h hu => Rz.up hu h), SP.is (.bool D), SP.is (.bool D)] (fun wq => Blk wq b0 25 #[.int .i64 (n : Int), .slice p a.length cap] /\ Blk wq (b0 + 1) 25 #[.int .i64 (n : Int), .slice q b.length capq] /\ Up w wq /\ Below w.heap.size w wq) (by kernel_rfl) (by rfl) (by kernel_rfl) (by kernel_rfl) (fun _ _ h hu => ⟨(h.1).up hu, (h.2.1).up hu, (h.2.2.1).trans hu, below_up (h.2.2.2) hu⟩) ⟨(by first | assumption | exact gBlk), (by first | assumption | exact gBlk), (by first | exact Up.refl _ | assumption), gUp⟩ (fun ev w9 hS9 i o hne hi hev => ?_) (fun gR wE hq hSE huE => ?_)
      ·have ⟨hS1, hS2, hS3, hSB⟩ := hS9
       have hcC := hev.const
       have hcF := hev.func
       have hcG := hev.global
       rcases i with _ | _ | _ | _ | _ | _ | _ | _ | _ | _ | _ | i
       ·obtain rfl := oI hi
        have e3 := hev.other 3 (by kernel_rfl)
        simp [Act.eval] at e3
        exact leavesR_value (run_ldME rfl (by go_simp) hS2 rfl) rfl
       ·obtain rfl := oI hi
        have e20 : ev (.tmp 20) = (.agg #[.int .i64 (n : Int), .slice q b.length capq]) := hev.dep 0 20 (by kernel_rfl)
        refine leavesR_call ?_ (HTb.out _ hS3)
        go_simp
       ·obtain rfl := oI hi
        have e2 := hev.other 2 (by kernel_rfl)
        simp [Act.eval] at e2
        exact leavesR_value (run_ldME rfl (by go_simp) hS1 rfl) rfl
       ·obtain rfl := oI hi
        have e22 : ev (.tmp 22) = (.agg #[.int .i64 (n : Int), .slice p a.length cap]) := hev.dep 2 22 (by kernel_rfl)
        refine leavesR_call ?_ (HTa.out _ hS3)
        go_simp
       ·obtain rfl := oI hi
        have e2 := hev.other 2 (by kernel_rfl)
        simp [Act.eval] at e2
        exact lV (.pointer (some ⟨b0, 0, none⟩))
       ·obtain rfl := oI hi
        have e24 : ev (.tmp 24) = (.pointer (some ⟨b0, 0, none⟩)) := hev.dep 4 24 (by kernel_rfl)
        have hcx := hS1.cell 0 rfl; exact leavesR_value (u := .int .i64 (n : Nat)) (by go_simp) rfl
       ·obtain rfl := oI hi
        have e25 : ev (.tmp 25) = (.int .i64 (n : Nat)) := hev.dep 5 25 (by kernel_rfl)
        refine leavesR_call ?_ (HO.out _)
        go_simp
       ·obtain rfl := oI hi
        have e23 : (fun v w1 => Rz w1 v (triE n (AM n a))) (ev (.tmp 23)) w9 := hev.dep 3 23 (by kernel_rfl)
        dsimp only at e23
        obtain ⟨v23, hv23⟩ : ∃ v, ev (.tmp 23) = v := ⟨_, rfl⟩
        rw [hv23] at e23
        have e26 : (fun v w1 => Rz w1 v (triE n (unitM 1))) (ev (.tmp 26)) w9 := hev.dep 6 26 (by kernel_rfl)
        dsimp only at e26
        obtain ⟨v26, hv26⟩ : ∃ v, ev (.tmp 26) = v := ⟨_, rfl⟩
        rw [hv26] at e26
        refine leavesR_call ?_ (HL1.out _ _ _ e23 e26)
        go_simp
       ·obtain rfl := oI hi
        have e21 : (fun v w1 => Rz w1 v (triE n (AM n b))) (ev (.tmp 21)) w9 := hev.dep 1 21 (by kernel_rfl)
        dsimp only at e21
        obtain ⟨v21, hv21⟩ : ∃ v, ev (.tmp 21) = v := ⟨_, rfl⟩
        rw [hv21] at e21
        have e27 : (fun v w1 => Rz w1 v (triE n fun i j => AM n a i j - unitM 1 i j)) (ev (.tmp 27)) w9 := hev.dep 7 27 (by kernel_rfl)
        dsimp only at e27
        obtain ⟨v27, hv27⟩ : ∃ v, ev (.tmp 27) = v := ⟨_, rfl⟩
        rw [hv27] at e27
        refine leavesR_call ?_ (HL2.out _ _ _ e21 e27)
        go_simp
       ·obtain rfl := oI hi
        have e28 : (fun v w1 => Rz w1 v (triE n (beM n a b))) (ev (.tmp 28)) w9 := hev.dep 8 28 (by kernel_rfl)
        dsimp only at e28
        obtain ⟨v28, hv28⟩ : ∃ v, ev (.tmp 28) = v := ⟨_, rfl⟩
        rw [hv28] at e28
        refine leavesR_call ?_ (HD.out _ _ e28)
        go_simp
       ·obtain rfl := oI hi
        have e29 : ev (.tmp 29) = (.bool D) := hev.dep 9 29 (by kernel_rfl)
        exact lV (.bool D)
       ·exact absurd (show i + 11 < 11 from (Array.getElem?_eq_some_iff.1 hi).1) (by omega)
      have ⟨hS1, hS2, hS3, hSB⟩ := hSE
      have q0 : gR 20 = (.agg #[.int .i64 (n : Int), .slice q b.length capq]) := hq 0 20 (by decide) (by kernel_rfl)
      have q1 : (fun v w1 => Rz w1 v (triE n (AM n b))) (gR 21) wE := hq 1 21 (by decide) (by kernel_rfl)
      dsimp only at q1
      obtain ⟨v21, hv21⟩ : ∃ v, gR 21 = v := ⟨_, rfl⟩
      rw [hv21] at q1
      have q2 : gR 22 = (.agg #[.int .i64 (n : Int), .slice p a.length cap]) := hq 2 22 (by decide) (by kernel_rfl)
      have q3 : (fun v w1 => Rz w1 v (triE n (AM n a))) (gR 23) wE := hq 3 23 (by decide) (by kernel_rfl)
      dsimp only at q3
      obtain ⟨v23, hv23⟩ : ∃ v, gR 23 = v := ⟨_, rfl⟩
      rw [hv23] at q3
      have q4 : gR 24 = (.pointer (some ⟨b0, 0, none⟩)) := hq 4 24 (by decide) (by kernel_rfl)
      have q5 : gR 25 = (.int .i64 (n : Nat)) := hq 5 25 (by decide) (by kernel_rfl)
      have q6 : (fun v w1 => Rz w1 v (triE n (unitM 1))) (gR 26) wE := hq 6 26 (by decide) (by kernel_rfl)
      dsimp only at q6
      obtain ⟨v26, hv26⟩ : ∃ v, gR 26 = v := ⟨_, rfl⟩
      rw [hv26] at q6
      have q7 : (fun v w1 => Rz w1 v (triE n fun i j => AM n a i j - unitM 1 i j)) (gR 27) wE := hq 7 27 (by decide) (by kernel_rfl)
      dsimp only at q7
      obtain ⟨v27, hv27⟩ : ∃ v, gR 27 = v := ⟨_, rfl⟩
      rw [hv27] at q7
      have q8 : (fun v w1 => Rz w1 v (triE n (beM n a b))) (gR 28) wE := hq 8 28 (by decide) (by kernel_rfl)
      dsimp only at q8
      obtain ⟨v28, hv28⟩ : ∃ v, gR 28 = v := ⟨_, rfl⟩
      rw [hv28] at q8
      have q9 : gR 29 = (.bool D) := hq 9 29 (by decide) (by kernel_rfl)
      have q10 : gR 4 = (.bool D) := hq 10 4 (by decide) (by kernel_rfl)
      refine ⟨fun _ => ?_, fun o ho => by simp at ho⟩
      simp only [putL, List.map_cons, List.map_nil, q0, hv21, q2, hv23, q4, q5, hv26, hv27, hv28, q9, q10, Act.put, pu1, pu2, pu3]
      clear hq hSE q0 q2 q4 q5 q9 q10
      go_wp2_with fail
      go_ret
      exact ⟨rfl, hS3⟩
     ·rw [show beV N a K b = false from by unfold beV; rw [decide_eq_false hNK, Bool.false_and, Bool.and_false, Bool.and_false]]
      have hNe : (N != K) = true := by simpa using hNK
      have hd : (N == K) = false := by simpa using hNK
      clear hRa hRb
      go_enter Tryd.func11, Tryd.ntmps11
      go_wp2_with (first
       | ((with_reducible apply ldM_P); exact rfl; exact rfl; (first | exact hBa | exact hBb1); exact rfl)
       | (go_at_call 15; first
          | ((with_reducible refine (HRa.out _ hU).mono ?_); rintro r w1 ⟨rfl, hu1⟩; have hBb1 := hBb.up hu1; have hBa1 := hBa.up hu1; have hU1 := hU.trans hu1)
          | ((with_reducible refine (HRb.out _ hU1).mono ?_); rintro r w2 ⟨rfl, hu2⟩; have hc0 := (hBa1.up hu2).cell 0 rfl; have hc1 := (hBb1.up hu2).cell 0 rfl)))
      go_ret
      exact ⟨rfl, hU1.trans hu2⟩
theorem bsays_any {u : Value} {e : Int} {w : World} (h : ErrsB w u e) (hg : Glob w) :
   Calls Tryd.prog 9 #[u, .int .i64 e] w fun r w' => r = .returned (.bool true) /\ Up w w' := by
 rcases h with ⟨rfl, rfl⟩ | ⟨h0, t, x, rfl, hE⟩
 ·go_enter Tryd.func9, Tryd.ntmps9
  go_wp2_with fail
  go_ret
  exact ⟨rfl, Up.refl _⟩
 ·have d : (e == 0) = false := by simpa using h0
  have HO := hid (fun w' (hu : Up w w') => ops_any (hE.up hu) (show 1 < 1000000 by decide))
  have HC := hid (fun w' (hu : Up w w') => code_any (hE.up hu) (hg.up hu))
  have de : (e == e) = true := by simp
  have dB : (boundB.toList == [98, 111, 117, 110, 100]) = true := by rw [show boundB.toList = [98, 111, 117, 110, 100] from by rw [ByteArray.toList_eq]; rfl]; rfl
  clear hE hg h0
  go_enter Tryd.func9, Tryd.ntmps9
  go_wp2_with (first
   | (go_at_call 20; (with_reducible refine (HO.out _ (Up.refl _)).mono ?_); rintro r w1 ⟨s, rfl, hu1, hs⟩; obtain ⟨g, cap, C, rfl, hB, h0⟩ := own_one hs)
   | (go_at_call 21; (with_reducible refine (HC.out _ hu1).mono ?_); rintro r w2 ⟨rfl, hu2⟩; have hc := (hB.up hu2).cell 0 h0; have de2 : ((Er.flt boundB (.num e)).first.getD 36 == e) = true := by (show (e == e) = true; simp)))
  go_ret
  exact ⟨rfl, hu1.trans hu2⟩
theorem k_ls : lsV 1 [5] 4 = true /\ lsV 1 [5] 5 = false := by decide +kernel
theorem k_ms : msV 1 [5] 6 = true /\ msV 1 [5] 5 = false := by decide +kernel
theorem k_bt : btC 1 [5] 4 6 = 0 /\ btC 1 [5] 5 6 = 30 /\ btC 1 [5] 4 5 = 31 := by decide +kernel
theorem k_be : beV 1 [5] 1 [5] = true /\ beV 1 [5] 1 [4] = false := by decide +kernel
theorem vw_sole (w : World) (z : Int) : Vw (w.alloc (.cells #[.int .i64 z] 2)) (.slice (some ⟨w.heap.size, 0, none⟩) 1 1) [z] := by
 refine ⟨_, 1, rfl, ⟨Nat.le_refl _, fun e => by cases e⟩, fun i hi => ⟨_, rfl, ?_⟩⟩
 rcases i with _ | i
 ·simp [zth, Addr.add]
 ·simp at hi
theorem sm_sole {w : World} {v : Value} {z : Int} (hz : I64 z) (h : Vw w v [z]) : Sm w (.agg #[.int .i64 1, v]) 1 [z] :=
 ⟨_, rfl, h, by unfold I64; omega, fun i hi => by
  rcases i with _ | i
  ·exact hz
  ·simp at hi, by simp⟩
set_option maxHeartbeats 16000000 in
theorem bknown_true {w : World} (hg : Glob w) :
   Calls Tryd.prog 4 #[] w fun r w' => r = .returned (.bool true) /\ Up w w' := by
 have HG := hid (fun w' (hu : Up w w') => hg.up hu)
 have i4 : I64 4 := by unfold I64; decide
 have i5 : I64 5 := by unfold I64; decide
 have i6 : I64 6 := by unfold I64; decide
 have hW := vw_sole w 5
 obtain ⟨wA, hwA⟩ : ∃ y, w.alloc (.cells #[.int .i64 5] 2) = y := ⟨_, rfl⟩
 have hUA : Up w wA := by rw [<- hwA]; exact Up.alloc _ _
 obtain ⟨bA, hbA⟩ : ∃ y, w.heap.size = y := ⟨_, rfl⟩
 rw [hwA, hbA] at hW
 obtain ⟨wB, hwB⟩ : ∃ y, wA.alloc (.cells #[.int .i64 1, .slice (some ⟨bA, 0, none⟩) 1 1] 25) = y := ⟨_, rfl⟩
 have hB : Blk wB wA.heap.size 25 #[.int .i64 1, .slice (some ⟨bA, 0, none⟩) 1 1] := by rw [<- hwB]; exact Blk.new _ _ rfl
 have hUB : Up wA wB := by rw [<- hwB]; exact Up.alloc _ _
 obtain ⟨bB, hbB⟩ : ∃ y, wA.heap.size = y := ⟨_, rfl⟩
 rw [hbB] at hB
 have HS := hid (fun w' (hu : Up wB w') => sm_sole i5 (Vw.up (hUB.trans hu) hW))
 have HL4 := hid (fun w' (hu : Up wB w') => k_ls.1 ▸ least_any (HS.out w' hu) i4)
 have HL5 := hid (fun w' (hu : Up wB w') => k_ls.2 ▸ least_any (HS.out w' hu) i5)
 have HM6 := hid (fun w' (hu : Up wB w') => k_ms.1 ▸ most_any (HS.out w' hu) i6)
 have HM5 := hid (fun w' (hu : Up wB w') => k_ms.2 ▸ most_any (HS.out w' hu) i5)
 have HT0 := hid (fun w' (hu : Up wB w') => k_bt.1 ▸ between_any (HS.out w' hu) i4 i6)
 have HT1 := hid (fun w' (hu : Up wB w') => k_bt.2.1 ▸ between_any (HS.out w' hu) i5 i6)
 have HT2 := hid (fun w' (hu : Up wB w') => k_bt.2.2 ▸ between_any (HS.out w' hu) i4 i5)
 have HE1 := hid (fun w' (hu : Up wB w') => k_be.1 ▸ below_any (HS.out _ (hu.trans (Up.alloc w' (.cells #[.int .i64 5] 2)))) (sm_sole i5 (vw_sole w' 5)))
 have HE2 := hid (fun w' (hu : Up wB w') => k_be.2 ▸ below_any (HS.out _ (hu.trans (Up.alloc w' (.cells #[.int .i64 4] 2)))) (sm_sole i4 (vw_sole w' 4)))
 have hU := hUA.trans hUB
 clear hg hW hUA hUB i4 i5 i6 HS
 go_enter Tryd.func4, Tryd.ntmps4
 go_wp2_with (first
  | ((with_reducible apply ldM_P); exact rfl; exact rfl; (first | exact hB | exact hB.up hx1 | exact hB.up hx2 | exact hB.up hx3 | exact hB.up hx4 | exact hB.up hx5 | exact hB.up hx6 | exact hB.up hx7 | exact hB.up hx8 | exact hB.up hx9 | exact hB.up hx10); exact rfl)
  | (go_at_call 7; first
     | ((with_reducible refine (HL4.out _ (Up.refl _)).mono ?_); rintro r w1 ⟨rfl, hu1⟩; have hx1 : Up wB w1 := hu1)
     | ((with_reducible refine (HL5.out _ hx1).mono ?_); rintro r w2 ⟨rfl, hu2⟩; have hx2 : Up wB w2 := hx1.trans hu2))
  | (go_at_call 8; first
     | ((with_reducible refine (HM6.out _ hx2).mono ?_); rintro r w3 ⟨rfl, hu3⟩; have hx3 : Up wB w3 := hx2.trans hu3)
     | ((with_reducible refine (HM5.out _ hx3).mono ?_); rintro r w4 ⟨rfl, hu4⟩; have hx4 : Up wB w4 := hx3.trans hu4))
  | (go_at_call 10; first
     | ((with_reducible refine (HT0.out _ hx4).mono ?_); rintro r w5 ⟨u5, rfl, hu5, he5⟩; have hx5 : Up wB w5 := hx4.trans hu5; obtain rfl := he5.elim (fun h => h.2) (fun h => absurd rfl h.1))
     | ((with_reducible refine (HT1.out _ hx5).mono ?_); rintro r w6 ⟨u6, rfl, hu6, he6⟩; have hx6 : Up wB w6 := hx5.trans hu6)
     | ((with_reducible refine (HT2.out _ hx7).mono ?_); rintro r w8 ⟨u8, rfl, hu8, he8⟩; have hx8 : Up wB w8 := hx7.trans hu8))
  | (go_at_call 9; first
     | ((with_reducible refine (bsays_any he6 (HG.out _ (hU.trans hx6))).mono ?_); rintro r w7 ⟨rfl, hu7⟩; have hx7 : Up wB w7 := hx6.trans hu7)
     | ((with_reducible refine (bsays_any he8 (HG.out _ (hU.trans hx8))).mono ?_); rintro r w9 ⟨rfl, hu9⟩; have hx9 : Up wB w9 := hx8.trans hu9))
  | (go_at_call 11; first
     | ((with_reducible refine (HE1.out _ hx9).mono ?_); rintro r w10 ⟨rfl, hu10⟩; have hx10 : Up wB w10 := hx9.trans ((Up.alloc _ _).trans hu10))
     | ((with_reducible refine (HE2.out _ hx10).mono ?_); rintro r w11 ⟨rfl, hu11⟩; have hx11 : Up wB w11 := hx10.trans ((Up.alloc _ _).trans hu11))))
 go_ret
 exact ⟨rfl, hU.trans hx11⟩
def MV (w : World) (v : Value) : Prop := ∃ N L, SmO w v N L
def Pair (a0 : Int) (s0 : Value) (w : World) (v : Value) : Prop :=
 ∃ g N1 s1 L1, v = .slice (some ⟨g, 0, none⟩) 2 2 /\ Blk w g 25 #[.int .i64 a0, s0, .int .i64 N1, s1] /\ SmO w (.agg #[.int .i64 N1, s1]) N1 L1
def IsRowX (k : IntKind) (w : World) (a : Option Addr) (len cap : Nat) (zs : List Int) : Prop :=
 (a = none /\ len = 0 /\ cap = 0 /\ zs = []) \/
 ∃ x, a = some x /\ len <= cap /\ cap <= maxLen /\ zs.length = cap /\ (∀ i, i < zs.length -> w.cell? (x.add i) = some (.int k (zs.getD i 0))) /\ ∀ n ∈ zs, (Lit.int k n).wf = true
theorem zth_take {l : List Int} {k i : Nat} (h : i < k) : zth (l.take k) i = zth l i := by
 unfold zth
 rw [List.getD_eq_getElem?_getD, List.getD_eq_getElem?_getD, List.getElem?_take_of_lt h]
theorem wf_i64 {z : Int} (h : (Lit.int .i64 z).wf = true) : I64 z := by
 have := (Lit.wf_int_iff .i64 z).1 h
 rw [IntKind.min_i64, IntKind.max_i64] at this
 unfold I64; omega
theorem vw_row {w : World} {a : Option Addr} {len cap : Nat} {zs : List Int} (h : IsRowX .i64 w a len cap zs) : Vw w (.slice a len cap) (zs.take len) /\ In64 (zs.take len) := by
 rcases h with ⟨rfl, rfl, rfl, rfl⟩ | ⟨x, rfl, hl, hm, hz, hc, hw⟩
 ·exact ⟨⟨none, 0, rfl, ⟨Nat.le_refl _, fun _ => rfl⟩, fun i hi => absurd hi (Nat.not_lt_zero _)⟩, fun i hi => absurd hi (Nat.not_lt_zero _)⟩
 ·have e : (zs.take len).length = len := by rw [List.length_take]; omega
  refine ⟨⟨some x, cap, by rw [e], ⟨by rw [e]; exact hl, fun e => by cases e⟩, fun i hi => ⟨x, rfl, ?_⟩⟩, fun i hi => ?_⟩
  ·rw [e] at hi
   rw [zth_take hi]
   exact hc i (by omega)
  ·rw [e] at hi
   rw [zth_take hi, zth_get (by omega)]
   exact wf_i64 (hw _ (List.getElem_mem _))
def dw (l : List Int) (i : Nat) : Int := (zth l i).tmod 1200
theorem dw_abs (l : List Int) (i : Nat) : -1200 < dw l i /\ dw l i < 1200 := by
 have h1 := Int.tmod_lt_of_pos (zth l i) (show (0 : Int) < 1200 by decide)
 have h2 := Int.lt_tmod_of_pos (zth l i) (show (0 : Int) < 1200 by decide)
 unfold dw
 omega
theorem dw_fit (l : List Int) (i : Nat) : fit (dw l i) = true := decide_eq_true (by have := dw_abs l i; omega)
theorem tmod_i64 (z : Int) : I64 (z.tmod 1000) := by
 have h1 := Int.tmod_lt_of_pos z (show (0 : Int) < 1000 by decide)
 have h2 := Int.lt_tmod_of_pos z (show (0 : Int) < 1000 by decide)
 unfold I64
 omega
def loA (l : List Int) (x : Int) (k : Nat) : Bool := allP (fun i => dw l i - x) k
def hiA (l : List Int) (y : Int) (k : Nat) : Bool := allP (fun i => y - dw l i) k
theorem loA_succ (l : List Int) (x : Int) (k : Nat) : loA l x (k + 1) = (loA l x k && decide (x < dw l k)) := by
 show (loA l x k && decide (0 < dw l k - x)) = _
 rw [decide_eq_decide.2 (show 0 < dw l k - x ↔ x < dw l k by omega)]
theorem hiA_succ (l : List Int) (y : Int) (k : Nat) : hiA l y (k + 1) = (hiA l y k && decide (dw l k < y)) := by
 show (hiA l y k && decide (0 < y - dw l k)) = _
 rw [decide_eq_decide.2 (show 0 < y - dw l k ↔ dw l k < y by omega)]
set_option maxHeartbeats 16000000 in
theorem bdiag_w {w : World} {p0 : Option Addr} {len0 cap0 : Nat} {l : List Int} (lx ly : Int) (hg : Glob w) (hv : Vw w (.slice p0 len0 cap0) l) :
   Calls Tryd.prog 3 #[.slice p0 len0 cap0, .int .i64 lx, .int .i64 ly] w fun r w' => r = .returned (.bool true) /\ Up w w' := by
 have HK := hid (bknown_true hg)
 have HG := hid (fun w' (hu : Up w w') => hg.up hu)
 obtain ⟨p', cap', e', -, hc⟩ := hv
 injection e' with x1 x2 x3
 subst x1 x2 x3
 have HC := hid (fun w' (hu : Up w w') i (hi : i < l.length) => show ∃ ad, p0 = some ad /\ w'.cell? (ad.add i) = some (.int .i64 (zth l i)) from by obtain ⟨a, h1, h2⟩ := hc i hi; exact ⟨a, h1, hu.cellEq h2⟩)
 clear hc hg
 by_cases hA : l.length <= 8
 ·have d8 : decide ((8 : Int) < (l.length : Int)) = false := decide_eq_false (by omega)
  have enw : nw (l.length : Int) = l.length := by unfold nw; omega
  have HN := hid (fun w => enw ▸ rnew_any (l.length : Int) w)
  clear enw
  go_enter Tryd.func3, Tryd.ntmps3
  go_upto_region 6 with (first
   | (go_at_call 4; (with_reducible refine HK.out.mono ?_); rintro r w1 ⟨rfl, hu1⟩)
   | (go_at_call 5; (with_reducible refine (HN.out _).mono ?_); rintro r w2 ⟨z2, rfl, hu2, hs2⟩; have hs2' := hs2; obtain ⟨s2, rfl, ⟨p2, c2, rfl, -, -⟩, -⟩ := hs2')
   | ((with_reducible apply stM_P); exact rfl; exact rfl; exact Blk.new _ _ rfl; exact rfl; exact rfl; exact two2 _ _ _ _ _
      refine wpL_folded (fun wd => Up w2 wd /\ Blk wd w2.heap.size 25 #[.int .i64 (l.length : Int), .slice p2 (zeros (l.length : Int)).length c2]) ⟨gUp, gBlk⟩ ?_
      rintro w3 ⟨hu3, hb3⟩))
  have hsm := hs2.up hu3
  have hM0 : w.heap.size <= w2.heap.size := (hu1.trans hu2).size
  have hUw := (hu1.trans hu2).trans hu3
  obtain ⟨bM, hbM⟩ : ∃ x, w2.heap.size = x := ⟨_, rfl⟩
  rw [hbM] at hM0 hb3 ⊢
  have HDg := hid (Dg.start (dw l) hA)
  have HM0 := hid hM0
  clear hs2 hu2 hu3 hbM hu1 hM0
  go_upto_region 8 with fail
  have i1 := tmod_i64 lx
  have i2 := tmod_i64 ly
  obtain ⟨x, hx⟩ : ∃ x, lx.tmod 1000 = x := ⟨_, rfl⟩
  obtain ⟨y, hy⟩ : ∃ y, ly.tmod 1000 = y := ⟨_, rfl⟩
  rw [hx] at i1 ⊢
  rw [hy] at i2 ⊢
  clear hx hy
  have HIx := hid i1
  have HIy := hid i2
  clear i1 i2
  go_wp2_with fail
  go_loopg [8, 9, 12] l.length (fun g t8 t9 ti wr => ∃ (k : Nat) (L : List Int) (pm : Option Addr) (nm cm : Nat), k <= l.length /\ l.length - k <= g /\ t8 = .bool (loA l x k) /\ t9 = .bool (hiA l y k) /\ ti = .int .i64 (k : Nat) /\ Dg l.length (dw l) k L /\
   Blk wr bM 25 #[.int .i64 (l.length : Int), .slice pm nm cm] /\ Sm wr (.agg #[.int .i64 (l.length : Int), .slice pm nm cm]) l.length L /\ Up w wr)
  case atStart => exact ⟨0, _, _, _, _, Nat.zero_le _, by omega, rfl, rfl, rfl, HDg.out, hb3, hsm, hUw⟩
  case round =>
   clear HDg hb3 hsm hUw
   obtain ⟨k, L, pm, nm, cm, hk, hkg, rfl, rfl, rfl, hDg, hbm, hsm, hu⟩ := hrel
   by_cases hlt : k < l.length
   ·obtain ⟨ad, rfl, hcx⟩ := HC.out _ hu k hlt
    obtain ⟨hst0, hstN, hDg2⟩ := hDg.next hA hlt (dw_fit l k)
    have HX := dw_abs l k
    have HST := rset_any (k : Int) (k : Int) (dw l k) hsm (by unfold I64; omega)
    rw [hst0, hstN] at HST
    obtain ⟨L2, hL2⟩ : ∃ y, stL (l.length : Int) L k k (dw l k) = y := ⟨_, rfl⟩
    rw [hL2] at HST hDg2
    have HST := hid HST
    have HDg2 := hid hDg2
    have HLo := hid (loA_succ l x k)
    have HHi := hid (hiA_succ l y k)
    have HEv : Hid (dw l k = (zth l k).tmod 1200) := hid rfl
    have hcx2 : wr.cell? (ad.add k) = some (.int .i64 (zth l k)) := hcx
    obtain ⟨z, hz⟩ : ∃ z, zth l k = z := ⟨_, rfl⟩
    rw [hz] at hcx hcx2 HEv
    obtain ⟨v, hv⟩ : ∃ x, dw l k = x := ⟨_, rfl⟩
    rw [hv] at HST HLo HHi HEv
    obtain ⟨ak, hak⟩ : ∃ q, loA l x k = q := ⟨_, rfl⟩
    obtain ⟨bk, hbk⟩ : ∃ q, hiA l y k = q := ⟨_, rfl⟩
    rw [hak] at HLo ⊢
    rw [hbk] at HHi ⊢
    have e1 : IntKind.i64.wrap ((k : Int) + 1) = (k : Int) + 1 := IntWalk.i64_in _ (by omega)
    clear hDg hst0 hstN hDg2 hL2 hz hv hak hbk hcx HX
    go_upto_region 12 with fail
    rw [<- HEv.out]
    clear hcx2 HEv
    go_upto_region 13 with (first
     | ((with_reducible apply ldM_P); exact rfl; exact rfl; exact hbm; exact rfl)
     | (go_at_call 6; (with_reducible refine (HST.out).mono ?_); rintro r w6 ⟨z6, rfl, hu6, hs6⟩; have hs6' := hs6; obtain ⟨s6, base6, rfl, hO6, -⟩ := hs6'; obtain ⟨p6, n6, c6, rfl⟩ := OwnI.slice hO6; have hbm6 := hbm.up hu6)
     | ((with_reducible apply stM_P); exact rfl; exact rfl; exact hbm6; exact rfl; exact rfl; exact two2 _ _ _ _ _
        refine wpL_folded (fun wd => Up w wd /\ Blk wd bM 25 #[.int .i64 (l.length : Int), .slice p6 n6 c6] /\ SmO wd (.agg #[.int .i64 (l.length : Int), .slice p6 n6 c6]) l.length L2)
         ⟨below_setRow (hu.trans hu6) HM0.out _, hbm6.setRow _, hs6.setRow hbm6⟩ ?_
        rintro w7 ⟨hu7, hbm7, hs7⟩))
    clear hbm hsm hu hu6 hs6 hO6 hbm6 HST
    obtain ⟨P, hP⟩ : ∃ P, decide (x < v) = P := ⟨_, rfl⟩
    obtain ⟨R, hR⟩ : ∃ R, decide (v < y) = R := ⟨_, rfl⟩
    rw [hP] at HLo
    rw [hR] at HHi
    cases ak
    all_goals cases bk
    all_goals
     go_wp2_with fail
     go_roundg (l.length - (k + 1))
     case measure => omega
     case rel => exact ⟨k + 1, L2, _, _, _, by omega, Nat.le_refl _, by rw [HLo.out]; rfl, by rw [HHi.out]; rfl, rfl, HDg2.out, hbm7, hs7.sm, hu7⟩
   ·obtain rfl : k = l.length := by omega
    have HL := hid (fun w' (hu' : Up wr w') => lsV_dg hDg HIx.out ▸ least_any (hsm.up hu') HIx.out)
    have HM := hid (fun w' (hu' : Up wr w') => msV_dg hDg HIy.out ▸ most_any (hsm.up hu') HIy.out)
    have HBt : btC (l.length : Int) L x y = if loA l x l.length = true then (if hiA l y l.length = true then 0 else 31) else 30 := by
     unfold btC
     rw [hDg.1, if_pos rfl, lsV_dg hDg HIx.out, msV_dg hDg HIy.out]
     rfl
    have HT := hid (fun w' (hu' : Up wr w') => between_any (hsm.up hu') HIx.out HIy.out)
    have HGr := hid (fun w' (hu' : Up wr w') => HG.out w' (hu.trans hu'))
    have HL2 := hid (show (allP (fun i => dw l i - x) l.length) = loA l x l.length from rfl)
    have HM2 := hid (show (allP (fun i => y - dw l i) l.length) = hiA l y l.length from rfl)
    rw [HL2.out] at HL
    rw [HM2.out] at HM
    obtain ⟨A, hA9⟩ : ∃ q, loA l x l.length = q := ⟨_, rfl⟩
    obtain ⟨B, hB9⟩ : ∃ q, hiA l y l.length = q := ⟨_, rfl⟩
    rw [hA9] at HL HBt ⊢
    rw [hB9] at HM HBt ⊢
    obtain ⟨C, hC⟩ : ∃ q, btC (l.length : Int) L x y = q := ⟨_, rfl⟩
    rw [hC] at HT HBt
    have HBt9 := hid HBt
    clear HBt
    clear hA9 hB9 HL2 HM2 hC hDg hsm hlt
    cases A
    all_goals cases B
    all_goals
     have hC := HBt9.out
     simp at hC
     subst hC
     clear HBt9
     go_wp2_with (first
      | ((with_reducible apply ldM_P); exact rfl; exact rfl; (first | exact hbm | exact hbm.up hu1 | exact hbm.up (hu1.trans hu2)); exact rfl)
      | (go_at_call 7; (with_reducible refine (HL.out _ (Up.refl _)).mono ?_); rintro r w1 ⟨rfl, hu1⟩)
      | (go_at_call 8; (with_reducible refine (HM.out _ hu1).mono ?_); rintro r w2 ⟨rfl, hu2⟩)
      | (go_at_call 10; (with_reducible refine (HT.out _ (hu1.trans hu2)).mono ?_); rintro r w3 ⟨u3, rfl, hu3, he3⟩)
      | (go_at_call 9; (with_reducible refine (bsays_any he3 (HGr.out _ ((hu1.trans hu2).trans hu3))).mono ?_); rintro r w4 ⟨rfl, hu4⟩))
     go_ret
     exact ⟨rfl, hu.trans (((hu1.trans hu2).trans hu3).trans hu4)⟩
 ·have d8 : decide ((8 : Int) < (l.length : Int)) = true := decide_eq_true (by omega)
  go_enter Tryd.func3, Tryd.ntmps3
  go_wp2_with (first
   | (go_at_call 4; (with_reducible refine HK.out.mono ?_); rintro r w1 ⟨rfl, hu1⟩))
  go_ret
  exact ⟨rfl, hu1⟩
theorem bdiag_row {w : World} {a1 a2 : Int} {p0 : Option Addr} {len0 cap0 : Nat} {z0 : List Int} (hg : Glob w) (w0 : IsRowX .i64 w p0 len0 cap0 z0) :
   Calls Tryd.prog 3 #[.slice p0 len0 cap0, .int .i64 a1, .int .i64 a2] w fun r w' => r = .returned (.bool true) /\ Up w w' := bdiag_w a1 a2 hg (vw_row w0).1
end Go.Proofs.YtdpgpchcgmmklaaDoor
namespace Go.Proofs.YtdpgpchcgmmklaaDoor
open Go.ChangeShapes Go.WideShapes Go.RowKit
set_option maxRecDepth 100000
theorem own4 : ownKnob Tryd.prog.godebug = none := by kernel_rfl
theorem et4 : Tryd.prog.globalNamed "errors.errorType" = some 0 := by kernel_rfl
theorem rt4 : (Tryd.prog.cutTypes.find? (·.1 == "internal/reflectlite.rtype")).map (·.2) = some 102 := by kernel_rfl
theorem oneRow4 : ((List.range 162).filter fun t => Tryd.prog.rowNamed t [101, 114, 114, 111, 114]) = [32] := by kernel_rfl
theorem size4 : Tryd.prog.types.size = 162 := by kernel_rfl
theorem glob_of_laid {W : World} (h : laidMetH Tryd.prog [("errors.errorType", Rows.laid_errors_errorType)] W) : Glob W := by
 have h' : laidMet Tryd.prog [] W /\ handlesMet Tryd.prog [("errors.errorType", Rows.laid_errors_errorType)] W := h
 obtain ⟨name, u, ty, e1, e2, e3, e4, e5⟩ := h'.2 _ (List.mem_singleton.2 rfl)
 have en : name = [101, 114, 114, 111, 114] := (Option.some.inj e1).symm
 subst en
 obtain rfl := Option.some.inj (rt4.symm.trans e2)
 have hm : ty ∈ (List.range 162).filter fun t => Tryd.prog.rowNamed t [101, 114, 114, 111, 114] := List.mem_filter.2 ⟨List.mem_range.2 (by rw [<- size4]; exact e3), e4⟩
 rw [oneRow4] at hm
 obtain rfl := List.mem_singleton.1 hm
 have hh : typeHandle Tryd.prog 32 = .pointer (some ⟨3, 32, none⟩) := by kernel_rfl
 rw [hh] at e5
 unfold Glob
 simpa using World.var?_cell et4 e5 0
noncomputable def laidWorld (os : Os) : World :=
 let w0 := World.holding Tryd.prog os ⟨#[], #[], []⟩
 { w0 with heap := w0.heap.modify 0 fun
    | .cells _ t frozen => .cells #[.iface 102 (.agg #[.pointer (some ⟨3, 32, none⟩)])] t frozen
    | o => o }
theorem laidWorld_met (os : Os) (args : Array Value) : laidMetH Tryd.prog [("errors.errorType", Rows.laid_errors_errorType)] ((laidWorld os).forCall (fun _ _ => 0) ⟨#[], args, []⟩).memory :=
 laidMetH_of_parts (laidMet_nil _ _) (by kernel_rfl)
end Go.Proofs.YtdpgpchcgmmklaaDoor
