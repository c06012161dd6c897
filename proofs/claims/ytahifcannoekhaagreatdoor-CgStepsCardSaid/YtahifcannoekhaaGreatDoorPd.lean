import Derived.Test.YtahifcannoekhaaGreatDoorPc
import Derived.BigQuiet
import Derived.Deep.QuietTactic
import Derived.Lib.AppendZeros
import Derived.Lib.AppendZerosOnto
namespace Go.Proofs.YtahifcannoekhaaGreatDoor
open Go Go.RowKit
set_option maxRecDepth 100000
def tk (F R : List Int) (q : Int) (n : Nat) : List Int := mk n fun i => (zth F 0 * zth R (i + 1) - zth R 0 * zth F (i + 1)).tdiv q
def Few (l : List Int) : Prop := ∀ i, (zth l i).natAbs < bp 5
theorem mul_bp {a b : Int} {i j : Nat} (ha : a.natAbs < bp i) (hb' : b.natAbs < bp j) : (a * b).natAbs < bp (i + j) := by
 rw [Int.natAbs_mul, bp_add]
 exact Nat.mul_lt_mul_of_lt_of_lt ha hb'
theorem drop1_range {w : World} {g : Nat} {C : Array Value} {l : List Int} {n : Nat} (hB : Blk w g 107 C) (ht : C.toList.take (l.length * 16) = wcs l) (hl : l.length = n + 1) : w.rangeAt g 16 (wcs (l.drop 1)) := by
 intro j v hv
 have hj : j < n * 16 := by have := (List.getElem?_eq_some_iff.1 hv).1; rw [wcs_len, List.length_drop, hl] at this; omega
 refine hB.cell _ ?_
 rw [<- wcs_drop (i := 1) (by omega), List.getElem?_drop, <- ht, List.getElem?_take_of_lt (by omega)] at hv
 rw [<- Array.getElem?_toList]
 exact hv
theorem zth_drop (l : List Int) (i : Nat) : zth (l.drop 1) i = zth l (i + 1) := by
 unfold zth
 rw [List.getD_eq_getElem?_getD, List.getD_eq_getElem?_getD, List.getElem?_drop, Nat.add_comm]
theorem few_inR {z : Int} {k : Nat} (hk : k <= 15) (h : z.natAbs < bp k) : InR z := inR_bp hk h
theorem tdiv_bp {a b : Int} {k : Nat} (h : a.natAbs < bp k) : (a.tdiv b).natAbs < bp k := by
 rw [Int.natAbs_tdiv]
 exact Nat.lt_of_le_of_lt (Nat.div_le_self _ _) h
theorem up_var {w0 w2 w3 w4 : World} {C D : Array Value} {t : TypeId} (h : Up w0 w2) (h3 : Up (w2.alloc (.cells C t)) w3) (h4 : Up (w3.setRow w2.heap.size D) w4) : Up w0 w4 :=
 Up.trans (below_setRow ((h.trans (Up.alloc _ _)).trans h3) h.size D) h4
set_option maxHeartbeats 8000000 in
theorem takenoff_any {vf vr : Value} {F R : List Int} {q : Int} {n : Nat} {w : World} (hF : Wv w vf F) (hR : Wv w vr R) (lF : F.length = n + 1) (lR : R.length = n + 1) (hn : n <= 8)
   (bF : Few F) (bR : Few R) (bq : q.natAbs < bp 5) (q0 : q ≠ 0) :
   Calls Tryz.prog 148 #[vf, vr, wideV (enc q)] w fun r w' => ∃ z, r = .returned z /\ Up w w' /\ ∃ b, w.heap.size <= b /\ OwnW w' b z (tk F R q n) := by
 obtain ⟨gF, cF, CF, rfl, -, hBF, htF⟩ := hF.open (by omega)
 obtain ⟨gR, cR, CR, rfl, hcR, hBR, htR⟩ := hR.open (by omega)
 obtain ⟨old, hold⟩ : ∃ o, R.drop 1 = o := ⟨_, rfl⟩
 obtain rfl : n = old.length := by rw [<- hold, List.length_drop]; omega
 have hRng16 : ∀ w', Blk w' gR 107 CR -> w'.rangeAt gR 16 (wcs old) := fun w' hB => hold ▸ drop1_range hB htR lR
 have HRng16 := hid hRng16
 have HRng0 : Hid (old.length = 0 -> ∀ (w' : World) g o, w'.rangeAt g o (wcs old)) := hid (fun h w' g o j v hv => by rw [List.length_eq_zero_iff.1 h] at hv; exact absurd hv (by simp [wcs]))
 have HRO : Hid (∀ i, zth old i = zth R (i + 1)) := hid (fun i => by rw [<- hold, zth_drop])
 rw [lF, lR]
 rw [lR] at hcR
 obtain ⟨L', hL'⟩ : ∃ x, tk F R q old.length = x := ⟨_, rfl⟩
 have hlL : L'.length = old.length := by rw [<- hL']; exact mk_len _ _
 have HlL := hid hlL
 have HAt : Hid (∀ i, i < old.length -> zth L' i = (zth F 0 * zth R (i + 1) - zth R 0 * zth F (i + 1)).tdiv q) := hid (fun i hi => by rw [<- hL']; exact mk_at hi)
 have HtF := hid htF
 have HtR := hid htR
 have HlF := hid lF
 have HlR := hid lR
 have hq : InR q := few_inR (by omega) bq
 rw [hL']
 obtain ⟨wS, hwS⟩ : ∃ x, w.alloc (.cells (cells 16 (limb (enc q))) 107) = x := ⟨_, rfl⟩
 have hBox : Row wS w.heap.size 107 16 (limb (enc q)) := by rw [<- hwS]; exact row_newc _ _ _ rfl
 have hUS : Up w wS := by rw [<- hwS]; exact Up.alloc _ _
 have hBFS := hBF.up hUS
 have hBRS := hBR.up hUS
 have hszS : wS.heap.size = w.heap.size + 1 := by rw [<- hwS]; simp
 have hgF := hBF.lt
 have hgR := hBR.lt
 clear hF hR hold hRng16 hL' hlL htF htR lF lR hBF hBR
 obtain ⟨c2, rfl⟩ : ∃ c2, cR = c2 + 1 := ⟨cR - 1, by omega⟩
 unfold wideV at *
 rcases c2 with _ | c2
 ·obtain rfl : old = [] := List.length_eq_zero_iff.1 (by omega)
  obtain rfl : L' = [] := List.length_eq_zero_iff.1 HlL.out
  go_enter Tryz.func148, Tryz.ntmps148
  go_wp2_with (first
   | ((with_reducible apply appW (l := []) (m := [])); exact rfl; exact rfl; exact OwnW.nil _ wS.heap.size; exact HRng0.out rfl _ _ _; exact Nat.le_refl _; (focus (simp; done)); (focus (simp; done)); rintro v1 w1 hO1 - hb1; rw [List.nil_append] at hO1; obtain ⟨pL, cL, rfl⟩ := hO1.slice))
  go_loopg [20] 1 (fun g ti wr => ti = .int .i64 0 /\ OwnW wr wS.heap.size (.slice pL 0 cL) [] /\ Up wS wr)
  case atStart => exact ⟨rfl, hO1, hb1⟩
  case round =>
   clear hO1 hb1
   obtain ⟨rfl, hO1, hb1⟩ := hrel
   go_wp2_with fail
   go_ret
   exact ⟨_, rfl, hUS.trans hb1, _, hUS.size, hO1⟩
 ·go_enter Tryz.func148, Tryz.ntmps148
  go_wp2_with (first
   | ((with_reducible apply appW (l := []) (m := old)); exact rfl; exact rfl; exact OwnW.nil _ wS.heap.size; (first | exact HRng16.out _ hBRS | exact HRng0.out (by omega) _ _ _); exact Nat.le_refl _; (focus (simp; done)); (focus omega); rintro v1 w1 hO1 - hb1; rw [List.nil_append] at hO1; obtain ⟨pL, cL, rfl⟩ := hO1.slice))
  have hU1 : Up wS w1 := hb1
  go_loopg [20] old.length (fun g ti wr => ∃ i : Nat, i <= old.length /\ old.length - i <= g /\ ti = .int .i64 (i : Nat) /\ OwnW wr wS.heap.size (.slice pL old.length cL) (mixed L' old i) /\ Up wS wr)
  case atStart => exact ⟨0, Nat.zero_le _, by omega, rfl, by rw [mixed_zero]; exact hO1, hU1⟩
  case round =>
   clear hO1 hU1 hb1
   obtain ⟨i, hi, hig, rfl, hO, hu⟩ := hrel
   by_cases hlt : i < old.length
   ·have hml := mixed_len HlL.out i
    obtain ⟨gL, cL', CL, hv, hbL, hBL, -, -, -, htL⟩ := hO.open (by omega)
    injection hv with x1 x2 x3
    subst x1 x3
    have hmi : zth (mixed L' old i) i = zth R (i + 1) := by rw [mixed_at HlL.out hlt, HRO.out]
    have hRL : ∀ w', Blk w' gL 107 CL -> w'.rangeAt gL (i * 16) (wc (zth R (i + 1))) := fun w' hB => hmi ▸ wv_range hB htL (by omega)
    have HRL := hid hRL
    have HRF0 := hid (fun w' (hB : Blk w' gF 107 CF) => wv_range hB HtF.out (i := 0) (by rw [HlF.out]; omega))
    have HRFi := hid (fun w' (hB : Blk w' gF 107 CF) => wv_range hB HtF.out (i := i + 1) (by rw [HlF.out]; omega))
    have HRR0 := hid (fun w' (hB : Blk w' gR 107 CR) => wv_range hB HtR.out (i := 0) (by rw [HlR.out]; omega))
    have hat := HAt.out i hlt
    have b1 : (zth F 0 * zth R (i + 1)).natAbs < bp 10 := mul_bp (bF 0) (bR (i + 1))
    have b2 : (zth R 0 * zth F (i + 1)).natAbs < bp 10 := mul_bp (bR 0) (bF (i + 1))
    have HM1 := hid (fun w => mul_z (few_inR (by omega) (bF 0)) (few_inR (by omega) (bR (i + 1))) w)
    have HM2 := hid (fun w => mul_z (few_inR (by omega) (bR 0)) (few_inR (by omega) (bF (i + 1))) w)
    rw [opt_yes (few_inR (by omega) b1)] at HM1
    rw [opt_yes (few_inR (by omega) b2)] at HM2
    have b3 : (zth F 0 * zth R (i + 1) - zth R 0 * zth F (i + 1)).natAbs < bp 11 := by
     have e : bp 11 = bp 10 * 18446744073709551616 := bp_succ 10
     have := Int.natAbs_sub_le (zth F 0 * zth R (i + 1)) (zth R 0 * zth F (i + 1))
     omega
    have HS := hid (fun w => sub_z (few_inR (by omega) b1) (few_inR (by omega) b2) w)
    rw [opt_yes (few_inR (by omega) b3)] at HS
    have HD := hid (fun w => div_any (few_inR (by omega) b3) hq w)
    have hdv : divZV (zth F 0 * zth R (i + 1) - zth R 0 * zth F (i + 1)) q = .tuple #[wideV (enc (zth L' i)), wideV (enc ((zth F 0 * zth R (i + 1) - zth R 0 * zth F (i + 1)).tmod q)), .bool true] := by
     unfold divZV
     rw [if_neg (by rintro (h | h); exact q0 h; exact h (few_inR (by omega) (tdiv_bp b3))), <- hat]
    rw [hdv] at HD
    have HSet := hid (mixed_set HlL.out hlt)
    clear b1 b2 b3 hdv hat hRL hmi htL hml x2
    generalize (zth F 0 * zth R (i + 1) - zth R 0 * zth F (i + 1)).tmod q = rest at *
    generalize zth F 0 * zth R (i + 1) - zth R 0 * zth F (i + 1) = dif at *
    go_wp2_with fail
    have hBFr := hBFS.up hu
    have hBRr := hBRS.up hu
    have hBxr := hBox.up hu
    have hgL : wS.heap.size <= gL := by omega
    unfold wideV at *
    trace_state
    refine opU (S := (fun wq => Up wr wq /\ Below w.heap.size w wq)) (req := (fun j => j != 12)) (fun _ _ h hu => ⟨(h.1).trans hu, below_up (h.2) hu⟩) ⟨(by first | exact Up.refl _ | assumption), gUp⟩ (fun wS hSS hSu => ?_)
    have ⟨hS1, hSB⟩ := hSS
    refine tkP 0 (some 24) hSu ?_
    refine tkP 1 (some 25) hSu ?_
    refine tkT 2 (some 26) rfl hSu hSS ?_ (hy := fun w' hSw => run_ldW rfl rfl (HRF0.out _ (hBFr.up hSw.1)))
    refine tkP 3 (some 27) hSu ?_
    refine tkP 4 (some 28) hSu ?_
    refine tkP 5 (some 29) hSu ?_
    refine tkT 6 (some 30) rfl hSu hSS ?_ (hy := fun w' hSw => run_ldW rfl rfl (HRL.out _ (hBL.up hSw.1)))
    refine tkC 7 (some 31) rfl hSu hSS ?_ (hy := fun w' hSw => (HM1.out _))
    refine tkP 8 (some 23) hSu ?_
    refine tkP 9 (some 32) hSu ?_
    refine tkP 10 (some 33) hSu ?_
    refine wpAnyU_allocW (i := 11) (d := (some 9)) rfl rfl (by kernel_rfl) (by rfl) rfl hSu.out fun w2 hw2 => ?_
    try simp only [Act.put, pu1, pu2, pu3]
    refine wpAnyU_one (i := 12) rfl (by kernel_rfl) (by rfl) fun w3 hw3 => ?_
    refine wp_st_rowN infoW rfl _ _ rfl _ rfl rfl ((Row.up (row_newc _ 16 _ rfl) hw3)) ?_
    refine ⟨fun h => by simp at h, ?_⟩
    try simp only [Act.put, pu1, pu2, pu3]
    refine tkP 13 (some 10) hSu ?_
    refine wpAnyU_done (by kernel_rfl) (fun wF huE => ?_) _
    have hP1 := ((Row.up (row_newc 107 16 (fun _ => 0) (rfl : w2.heap.size = w2.heap.size)) hw3).setRow (limb (enc (zth F 0 * zth R (i + 1))))).up huE
    have hx1 := up_var (hS1.trans hw2) hw3 huE
    have hlt1 := Nat.le_trans hu.size (hS1.trans hw2).size
    clear hS1 hSB hSS hw2 hw3 huE
    obtain ⟨wA, hwA⟩ : ∃ x, wF = x := ⟨_, rfl⟩
    rw [hwA] at hP1 hx1 ⊢
    clear hwA
    obtain ⟨b1, hb1⟩ : ∃ x, w2.heap.size = x := ⟨_, rfl⟩
    rw [hb1] at hP1 hlt1 ⊢
    clear hb1
    have hBFA := hBFr.up hx1
    have hBRA := hBRr.up hx1
    have e1 : IntKind.i64.wrap ((i : Int) + 1) = (i : Int) + 1 := IntWalk.i64_in _ (by omega)
    have e2 : (0 : Int) <= (i : Int) + 1 /\ (i : Int) + 1 < (old.length : Int) + 1 := by omega
    go_wp2_with fail
    refine opU (S := (fun wq => Up wA wq /\ Below w.heap.size w wq)) (req := (fun j => j != 13)) (fun _ _ h hu => ⟨(h.1).trans hu, below_up (h.2) hu⟩) ⟨(by first | exact Up.refl _ | assumption), gUp⟩ (fun wS hSS hSu => ?_)
    have ⟨hS1, hSB⟩ := hSS
    refine tkP 0 (some 35) hSu ?_
    refine tkP 1 (some 36) hSu ?_
    refine tkT 2 (some 37) rfl hSu hSS ?_ (hy := fun w' hSw => run_ldW rfl rfl (HRR0.out _ (hBRA.up hSw.1)))
    refine tkP 3 (some 38) hSu ?_
    refine tkP 4 (some 39) hSu ?_
    refine tkP 5 (some 40) hSu ?_
    refine tkP 6 (some 41) hSu ?_
    refine tkT 7 (some 42) rfl hSu hSS ?_ (hy := fun w' hSw => run_ldW rfl rfl (HRFi.out _ (hBFA.up hSw.1)))
    refine tkC 8 (some 43) rfl hSu hSS ?_ (hy := fun w' hSw => (HM2.out _))
    refine tkP 9 (some 34) hSu ?_
    refine tkP 10 (some 44) hSu ?_
    refine tkP 11 (some 45) hSu ?_
    refine wpAnyU_allocW (i := 12) (d := (some 11)) rfl rfl (by kernel_rfl) (by rfl) rfl hSu.out fun w4 hw4 => ?_
    try simp only [Act.put, pu1, pu2, pu3]
    refine wpAnyU_one (i := 13) rfl (by kernel_rfl) (by rfl) fun w5 hw5 => ?_
    refine wp_st_rowN infoW rfl _ _ rfl _ rfl rfl ((Row.up (row_newc _ 16 _ rfl) hw5)) ?_
    refine ⟨fun h => by simp at h, ?_⟩
    try simp only [Act.put, pu1, pu2, pu3]
    refine tkP 14 (some 12) hSu ?_
    refine wpAnyU_done (by kernel_rfl) (fun wF huE => ?_) _
    have hP2 := ((Row.up (row_newc 107 16 (fun _ => 0) (rfl : w4.heap.size = w4.heap.size)) hw5).setRow (limb (enc (zth R 0 * zth F (i + 1))))).up huE
    have hx2 := up_var (hS1.trans hw4) hw5 huE
    clear hS1 hSB hSS hw4 hw5 huE
    obtain ⟨wB, hwB⟩ : ∃ x, wF = x := ⟨_, rfl⟩
    rw [hwB] at hP2 hx2 ⊢
    clear hwB
    obtain ⟨b2, hb2⟩ : ∃ x, w4.heap.size = x := ⟨_, rfl⟩
    rw [hb2] at hP2 ⊢
    clear hb2
    replace hP1 := hP1.up hx2
    have hx12 := hx1.trans hx2
    have hBxB := hBxr.up hx12
    have hBLB := hBL.up hx12
    have hOB := hO.up hx12
    have huB := hu.trans hx12
    have hltB := hBxB.lt
    clear hx1 hx2 hBFA hBRA
    generalize zth F 0 * zth R (i + 1) = p1 at *
    generalize zth R 0 * zth F (i + 1) = p2 at *
    go_wp2_with (first
     | ((with_reducible apply ld_rowP undW infoW); exact rfl; exact rfl; exact gRow)
     | (go_at_call 100; (with_reducible refine (HS.out _).mono ?_); rintro r w6 ⟨rfl, hu6⟩; have hs6 := hu6.size)
     | ((with_reducible apply st_rowP infoW); exact rfl; exact rfl; exact gRow) | ((with_reducible apply st_rowZ infoW); exact rfl; exact rfl; exact gRow)
     | (go_at_call 103; (with_reducible refine (HD.out _).mono ?_); rintro r w7 ⟨rfl, hu7⟩; have hx7 : Up wB w7 := Up.trans gUp hu7; have hBL7 := hBLB.up hx7; have hset := (hOB.up hx7).set hBL7 (i := i) (by rw [mixed_len HlL.out]; exact hlt) (zth L' i); rw [HSet.out] at hset; have hu8 := below_setRow (huB.trans hx7) hgL (splW CL (i * 16) (zth L' i)))
     | ((with_reducible apply stW_P); exact rfl; exact rfl; exact hBL7; exact hset.2))
    go_roundg (old.length - (i + 1))
    case measure => omega
    case rel => exact ⟨i + 1, hlt, Nat.le_refl _, rfl, hset.1, hu8⟩
   ·obtain rfl : i = old.length := by omega
    rw [<- HlL.out, mixed_all HlL.out] at hO
    go_wp2_with fail
    go_ret
    rw [HlL.out] at hO
    exact ⟨_, rfl, hUS.trans hu, _, hUS.size, hO⟩
def Rv (w : World) (v : Value) (L : List (List Int)) : Prop :=
 (L = [] /\ ∃ p c, v = .slice p 0 c) \/ ∃ g o cap C, v = .slice (some ⟨g, o, none⟩) L.length cap /\ L.length <= cap /\ Blk w g 124 C /\ ∀ i, i < L.length -> ∃ s, C[o + i]? = some s /\ Wv w s (L.getD i [])
theorem Rv.up {w w' : World} (hu : Up w w') {v : Value} {L : List (List Int)} (h : Rv w v L) : Rv w' v L := by
 rcases h with h | ⟨g, o, cap, C, h1, h2, h3, h4⟩
 ·exact .inl h
 ·exact .inr ⟨g, o, cap, C, h1, h2, h3.up hu, fun i hi => by obtain ⟨s, h5, h6⟩ := h4 i hi; exact ⟨s, h5, h6.up hu⟩⟩
theorem Rv.slice {w : World} {v : Value} {L : List (List Int)} (h : Rv w v L) : ∃ p c, v = .slice p L.length c := by
 rcases h with ⟨rfl, p, c, rfl⟩ | ⟨g, o, cap, C, rfl, _⟩
 ·exact ⟨p, c, rfl⟩
 ·exact ⟨_, cap, rfl⟩
theorem Rv.open {w : World} {v : Value} {L : List (List Int)} (h : Rv w v L) (h0 : 0 < L.length) :
   ∃ g o cap C, v = .slice (some ⟨g, o, none⟩) L.length cap /\ L.length <= cap /\ Blk w g 124 C /\ ∀ i, i < L.length -> ∃ s, C[o + i]? = some s /\ Wv w s (L.getD i []) := by
 rcases h with ⟨rfl, _⟩ | h
 ·exact absurd h0 (by decide)
 ·exact h
def Wb (w : World) (base : Nat) (v : Value) (l : List Int) : Prop := Wv w v l /\ ∀ a n c, v = .slice (some a) n c -> 0 < n -> base <= a.block
theorem Wb.up {w w' : World} (hu : Up w w') {base : Nat} {v : Value} {l : List Int} (h : Wb w base v l) : Wb w' base v l := ⟨h.1.up hu, h.2⟩
theorem OwnW.wb {w : World} {base b : Nat} {v : Value} {l : List Int} (h : OwnW w b v l) (hb : base <= b) : Wb w base v l := by
 refine ⟨h.wv, fun a n c e h0 => ?_⟩
 obtain ⟨_, ⟨rfl, h1⟩ | ⟨g, cap, cur, rfl, h2, _⟩⟩ := h
 ·simp at e
 ·injection e with e1
  injection e1 with e1
  subst e1
  exact Nat.le_trans hb h2
theorem OwnW.below {w : World} {base g : Nat} {v : Value} {l : List Int} (h : OwnW w base v l) (hg : g < base) (D : Array Value) : OwnW (w.setRow g D) base v l := by
 obtain ⟨h0, h1 | ⟨g', cap, cur, hv, hb, hB, hr⟩⟩ := h
 ·exact ⟨h0, .inl h1⟩
 ·exact ⟨h0, .inr ⟨g', cap, cur, hv, hb, Blk.row_other hB D (by omega), hr⟩⟩
theorem Wb.below {w : World} {base g : Nat} {v : Value} {l : List Int} (h : Wb w base v l) (hg : g < base) (D : Array Value) : Wb (w.setRow g D) base v l := by
 obtain ⟨h1, h2⟩ := h
 refine ⟨?_, h2⟩
 rcases h1 with h1 | ⟨g', cap, C, hv, hc, hB, ht⟩
 ·exact .inl h1
 ·rcases Nat.eq_zero_or_pos l.length with h0 | h0
  ·exact .inl ⟨List.length_eq_zero_iff.1 h0, _, _, by rw [hv, h0]⟩
  ·have := h2 _ _ _ hv h0
   exact .inr ⟨g', cap, C, hv, hc, Blk.row_other hB D (by show g' ≠ g; have : base <= g' := this; omega), ht⟩
def OwnR (w : World) (base : Nat) (v : Value) (L : List (List Int)) : Prop :=
 ∃ xs : List Value, w.ownsRow base 124 1 v L.length xs /\ ∀ i, i < L.length -> ∃ s, xs[i]? = some s /\ Wb w base s (L.getD i [])
theorem OwnR.below {w : World} {base g : Nat} {v : Value} {L : List (List Int)} (h : OwnR w base v L) (hg : g < base) (D : Array Value) : OwnR (w.setRow g D) base v L := by
 obtain ⟨xs, ⟨h0, h1⟩, h2⟩ := h
 refine ⟨xs, ⟨h0, ?_⟩, fun i hi => by obtain ⟨s, h5, h6⟩ := h2 i hi; exact ⟨s, h5, h6.below hg D⟩⟩
 rcases h1 with h1 | ⟨g', cap, cur, hv, hb, hB, hr⟩
 ·exact .inl h1
 ·exact .inr ⟨g', cap, cur, hv, hb, Blk.row_other hB D (by omega), hr⟩
theorem OwnR.up {w w' : World} {base : Nat} {v : Value} {L : List (List Int)} (hu : Up w w') (h : OwnR w base v L) : OwnR w' base v L := by
 obtain ⟨xs, h1, h2⟩ := h
 exact ⟨xs, World.ownsRow.up h1 hu, fun i hi => by obtain ⟨s, h5, h6⟩ := h2 i hi; exact ⟨s, h5, h6.up hu⟩⟩
theorem OwnR.nil (w : World) (base : Nat) : OwnR w base (.slice none 0 0) [] := ⟨[], World.ownsRow_nil _ _ _ _, fun _ hi => absurd hi (Nat.not_lt_zero _)⟩
def Rz (w : World) (v : Value) (L : List (List Int)) : Prop :=
 (L = [] /\ ∃ p c, v = .slice p 0 c) \/ ∃ g cap C, v = .slice (some ⟨g, 0, none⟩) L.length cap /\ L.length <= cap /\ Blk w g 124 C /\ ∀ i, i < L.length -> ∃ s, C[i]? = some s /\ Wv w s (L.getD i [])
theorem Rz.up {w w' : World} (hu : Up w w') {v : Value} {L : List (List Int)} (h : Rz w v L) : Rz w' v L := by
 rcases h with h | ⟨g, cap, C, h1, h2, h3, h4⟩
 ·exact .inl h
 ·exact .inr ⟨g, cap, C, h1, h2, h3.up hu, fun i hi => by obtain ⟨s, h5, h6⟩ := h4 i hi; exact ⟨s, h5, h6.up hu⟩⟩
theorem Rz.slice {w : World} {v : Value} {L : List (List Int)} (h : Rz w v L) : ∃ p c, v = .slice p L.length c := by
 rcases h with ⟨rfl, p, c, rfl⟩ | ⟨g, cap, C, rfl, _⟩
 ·exact ⟨p, c, rfl⟩
 ·exact ⟨_, cap, rfl⟩
theorem OwnR.rz {w : World} {base : Nat} {v : Value} {L : List (List Int)} (h : OwnR w base v L) : Rz w v L := by
 obtain ⟨xs, ⟨_, ⟨rfl, h0⟩ | ⟨g, cap, cur, rfl, _, hB, hc, _, _, ht⟩⟩, h2⟩ := h
 ·exact .inl ⟨List.length_eq_zero_iff.1 h0, _, _, rfl⟩
 ·refine .inr ⟨g, cap, cur, rfl, hc, hB, fun i hi => ?_⟩
  obtain ⟨s, h3, h4⟩ := h2 i hi
  rw [<- ht, List.getElem?_take_of_lt (by omega), Array.getElem?_toList] at h3
  exact ⟨s, h3, h4.1⟩
theorem OwnR.slice {w : World} {base : Nat} {v : Value} {L : List (List Int)} (h : OwnR w base v L) : ∃ p c, v = .slice p L.length c := h.rz.slice
theorem Rz.tail {w : World} {g n cap : Nat} {C : Array Value} {L : List (List Int)} (hl : L.length = n + 1) (hc : n + 1 <= cap) (hB : Blk w g 124 C) (hE : ∀ i, i < L.length -> ∃ s, C[i]? = some s /\ Wv w s (L.getD i [])) : Rv w (.slice (some ⟨g, 1, none⟩) n (cap - 1)) (L.drop 1) := by
 have hn : (L.drop 1).length = n := by rw [List.length_drop]; omega
 refine .inr ⟨g, 1, cap - 1, C, by rw [hn], by rw [hn]; omega, hB, fun i hi => ?_⟩
 rw [hn] at hi
 obtain ⟨s, h1, h2⟩ := hE (i + 1) (by omega)
 refine ⟨s, by rw [Nat.add_comm]; exact h1, ?_⟩
 have e : (L.drop 1).getD i [] = L.getD (i + 1) [] := by rw [List.getD_eq_getElem?_getD, List.getD_eq_getElem?_getD, List.getElem?_drop, Nat.add_comm]
 rw [e]
 exact h2
theorem Wv.grown {w w' : World} {row : Option Nat} {v : Value} {l : List Int} (h : Wv w v l) (hg : w.grownBy w' row) (hr : ∀ k, row = some k -> ∃ C, Blk w k 124 C) : Wv w' v l := by
 rcases h with h | ⟨g, cap, C, h1, h2, h3, h4⟩
 ·exact .inl h
 ·refine .inr ⟨g, cap, C, h1, h2, ?_, h4⟩
  unfold Blk
  rw [hg.block g h3.lt ?_]
  ·exact h3
  ·intro e
   obtain ⟨D, hD⟩ := hr g e.symm
   unfold Blk at hD h3
   rw [hD] at h3
   simp at h3
theorem appR {ops : Array Oper} {rest : List Oper} {Q : Exit -> Act -> World -> Prop} {a : Act} {w : World} {d : Option Tmp} {s u : Operand} {ty : TypeId} {pos : String} {af : Array Edge} {base g c : Nat} {v : Value} {L : List (List Int)} {x : Value} {r : List Int}
   (hs : a.eval s = v) (hu : a.eval u = .slice (some ⟨g, 0, none⟩) 1 c) (hown : OwnR w base v L) (hV : w.cell? ⟨g, 0, none⟩ = some x) (hx : Wb w base x r) (hbase : base <= w.heap.size) (hl : L.length < 1000000)
   (h : ∀ v' w', OwnR w' base v' (L ++ [r]) -> w.grownBy w' v.ownBlock -> Below base w w' -> wpList Tryz.prog ops Q rest (a.put d v') w') :
   wpList Tryz.prog ops Q ({ dst := d, op := .call { callee := .builtin .append, args := #[s, u], argTypes := #[122, 122] }, type := ty, pos := pos, after := af, guard := none } :: rest) a w := by
 obtain ⟨i0, hi0, he⟩ := Option.map_eq_some_iff.1 infoRs
 simp only [Prod.mk.injEq] at he
 obtain ⟨xs, hxs, hE⟩ := hown
 have hlt := World.ownsRow.lt hxs
 have hrow : ∀ k, v.ownBlock = some k -> ∃ C, Blk w k 124 C := by
  intro k hk
  obtain ⟨_, ⟨rfl, _⟩ | ⟨g', cap, cur, rfl, _, hB, _⟩⟩ := hxs
  ·simp [Value.ownBlock] at hk
  ·simp [Value.ownBlock] at hk; subst hk; exact ⟨cur, hB⟩
 have hxl : xs.length = L.length := by have := hxs.1; omega
 obtain ⟨px, cx, rfl⟩ := hx.1.slice
 refine wpList_append_own w rfl s u 122 rfl base 124 i0 _ 1 24 undRs hi0 he.1 he.2.1 he.2.2 rfl (by decide) v L.length xs hs hxs ⟨g, 0, none⟩ 1 c [.slice px r.length cx] hu rfl (fun j y hy => by
  rcases j with _ | j
  ·simp at hy; subst hy; rw [Addr.add_mid]; exact hV
  ·simp at hy) (by simp [Value.oneCell']) (by unfold maxLen; omega) (by omega) hbase ?_
 intro v' w' h1 h2 _
 refine h v' w' ⟨xs ++ [.slice px r.length cx], by rw [List.length_append]; exact h1, fun i hi => ?_⟩ h2 ⟨h2.os, h2.tape, h2.output, h2.size, fun k hk => h2.block k (by omega) fun e => ?_⟩
 ·rw [List.length_append, List.length_singleton] at hi
  by_cases e : i < L.length
  ·obtain ⟨s', h3, h4⟩ := hE i e
   refine ⟨s', by rw [List.getElem?_append_left (by omega)]; exact h3, ?_⟩
   rw [show (L ++ [r]).getD i [] = L.getD i [] from by rw [List.getD_eq_getElem?_getD, List.getD_eq_getElem?_getD, List.getElem?_append_left e]]
   exact ⟨h4.1.grown h2 hrow, h4.2⟩
  ·obtain rfl : i = L.length := by omega
   refine ⟨_, by rw [List.getElem?_append_right (by omega), hxl, Nat.sub_self]; rfl, ?_⟩
   rw [show (L ++ [r]).getD L.length [] = r from by rw [List.getD_eq_getElem?_getD, List.getElem?_append_right (Nat.le_refl _), Nat.sub_self]; rfl]
   exact ⟨hx.1.grown h2 hrow, hx.2⟩
 ·have := hlt k e.symm
  omega
theorem take_map_succ {α β : Type} (f : α -> β) (L : List α) (d : α) {k : Nat} (hk : k < L.length) : (L.map f).take (k + 1) = (L.map f).take k ++ [f (L.getD k d)] := by
 rw [List.take_add_one, List.getElem?_eq_getElem (by rw [List.length_map]; exact hk), List.getElem_map, List.getD_eq_getElem?_getD, List.getElem?_eq_getElem hk]
 rfl
set_option maxHeartbeats 8000000 in
theorem fewer_any {vf vo : Value} {F : List Int} {L : List (List Int)} {q : Int} {n : Nat} {w : World} (hF : Wv w vf F) (hO : Rv w vo L) (lF : F.length = n + 1) (lL : ∀ i, i < L.length -> (L.getD i []).length = n + 1) (hn : n <= 8) (h8 : L.length <= 8)
   (bF : Few F) (bL : ∀ i, Few (L.getD i [])) (bq : q.natAbs < bp 5) (q0 : q ≠ 0) :
   Calls Tryz.prog 142 #[vf, vo, wideV (enc q)] w fun r w' => ∃ z, r = .returned z /\ Up w w' /\ ∃ b, w.heap.size <= b /\ OwnR w' b z (L.map fun R => tk F R q n) := by
 have HTK := hid (fun (R : List Int) (vr : Value) (w' : World) (hu : Up w w') (hR : Wv w' vr R) (lR : R.length = n + 1) (bR : Few R) => takenoff_any (hF.up hu) hR lF lR hn bF bR bq q0)
 have HL := hid lL
 have HB := hid bL
 obtain ⟨pF, cF, rfl⟩ := hF.slice
 rw [lF] at HTK ⊢
 obtain ⟨wS, hwS⟩ : ∃ x, w.alloc (.cells (cells 16 (limb (enc q))) 107) = x := ⟨_, rfl⟩
 have hBox : Row wS w.heap.size 107 16 (limb (enc q)) := by rw [<- hwS]; exact row_newc _ _ _ rfl
 have hUS : Up w wS := by rw [<- hwS]; exact Up.alloc _ _
 have hML : (L.map fun R => tk F R q n).length = L.length := List.length_map ..
 have HML := hid hML
 have HT := hid (fun k (hk : k < L.length) => take_map_succ (fun R => tk F R q n) L [] hk)
 obtain ⟨T, hT⟩ : ∃ T, (L.map fun R => tk F R q n) = T := ⟨_, rfl⟩
 rw [hT] at HML HT ⊢
 clear hT hML lL bL
 rcases Nat.eq_zero_or_pos L.length with hz | hz
 ·obtain rfl : L = [] := List.length_eq_zero_iff.1 hz
  obtain rfl : T = [] := List.length_eq_zero_iff.1 HML.out
  obtain ⟨pO, cO, rfl⟩ := hO.slice
  clear hF hO
  unfold wideV at *
  go_enter Tryz.func142, Tryz.ntmps142
  go_wp2_with fail
  go_loopg [7, 12] 1 (fun g tr ti wr => tr = .slice none 0 0 /\ ti = .int .i64 0 /\ Up wS wr)
  case atStart => exact ⟨rfl, rfl, Up.refl _⟩
  case round =>
   obtain ⟨rfl, rfl, hu⟩ := hrel
   go_wp2_with fail
   go_ret
   exact ⟨_, rfl, hUS.trans hu, _, Nat.le_refl _, OwnR.nil _ _⟩
 ·obtain ⟨gO, o, cO, CO, rfl, -, hBO, hE⟩ := hO.open hz
  have HE := hid hE
  have hBOS := hBO.up hUS
  clear hF hO hBO hE
  unfold wideV at *
  go_enter Tryz.func142, Tryz.ntmps142
  go_wp2_with fail
  go_loopg [7, 12] L.length (fun g tr ti wr => ∃ k : Nat, k <= L.length /\ L.length - k <= g /\ ti = .int .i64 (k : Nat) /\ OwnR wr wS.heap.size tr (T.take k) /\ Up wS wr)
  case atStart => exact ⟨0, Nat.zero_le _, by omega, rfl, by rw [List.take_zero]; exact OwnR.nil _ _, Up.refl _⟩
  case round =>
   obtain ⟨k, hk, hkg, rfl, hO, hu⟩ := hrel
   by_cases hlt : k < L.length
   ·obtain ⟨s, h1, h2⟩ := HE.out k hlt
    obtain ⟨ps, cs, rfl⟩ := h2.slice
    have hcx := (hBOS.up hu).cell _ h1
    have hBx := hBox.up hu
    have HTKk := hid (fun w' (hu' : Up w w') => HTK.out (L.getD k []) _ w' hu' (h2.up hu') (HL.out k hlt) (HB.out k))
    have hT9 := HT.out k hlt
    have HT9 := hid hT9
    have HTk : Hid ((T.take k).length < 1000000) := hid (by rw [List.length_take, HML.out]; omega)
    clear h1 h2 hT9
    generalize L.getD k [] = R at *
    generalize tk F R q n = TK at *
    go_wp2_with (first
     | ((with_reducible apply ld_rowP undW infoW); exact rfl; exact rfl; exact gRow)
     | (go_at_call 148; (with_reducible refine (HTKk.out _ (hUS.trans hu)).mono ?_); rintro r w3 ⟨z3, rfl, hu3, b3, hb3, hO3⟩; obtain ⟨p3, c3, rfl⟩ := hO3.slice; have hsz3 := hu3.size; have hsz := hu.size)
     | ((with_reducible apply appR); exact rfl; exact rfl; exact OwnR.up (hu3.trans (Up.alloc _ _)) hO; exact (Blk.new _ _ rfl).cell 0 rfl; exact (hO3.up (Up.alloc _ _)).wb (by omega); (focus (simp; omega)); exact HTk.out; rintro v6 w6 hO6 - hb6))
    go_roundg (L.length - (k + 1))
    case measure => omega
    case rel => exact ⟨k + 1, hlt, Nat.le_refl _, rfl, by rw [HT9.out]; exact hO6, Below.trans ((hu.trans hu3).trans (Up.alloc _ _)) hb6⟩
   ·obtain rfl : k = L.length := by omega
    rw [<- HML.out, List.take_length] at hO
    go_wp2_with fail
    go_ret
    exact ⟨_, rfl, hUS.trans hu, _, hUS.size, hO⟩
theorem leavesR_up {P : Program} {R : Value -> World -> Prop} {w w' : World} {r : Result Next} {u : Value} (h : r = .ok (.value u) w') (hu : Up w w') (hR : R u w') : LeavesR P R w r := by subst h; exact ⟨hR, hu⟩
def ouC (N : Int) (l : List Int) (x : Int) (h : List Int) : Int := if rt N l && decide ((h.length : Int) = N) then (if (ouL N.toNat l x h).all fit then 0 else 21) else 23
def ouR (N : Int) (l : List Int) (x : Int) (h : List Int) : List Int := if ouC N l x h = 0 then ouL N.toNat l x h else []
def ouN (N : Int) (l : List Int) (x : Int) (h : List Int) : Int := if ouC N l x h = 0 then N else 0
theorem ouL_len (n : Nat) (l : List Int) (x : Int) (h : List Int) : (ouL n l x h).length = l.length := mk_len _ _
theorem ouL_at {n : Nat} {l : List Int} (x : Int) (h : List Int) (hn : n <= 8) (hl : l.length = triN n) {i j : Nat} (hij : i <= j) (hj : j < n) : zth (ouL n l x h) (pos n i j) = zth l (pos n i j) + x * zth h i * zth h j := by
 unfold ouL
 rw [mk_at (by rw [hl]; exact pos_lt hij hj), prs_at hn hij hj]
theorem fit_i64 {v : Int} (h : fit v = true) : I64 v := by have := of_decide_eq_true h; unfold I64; omega
theorem In64.of_fit {l : List Int} (h : ∀ q, q < l.length -> fit (zth l q) = true) : In64 l := fun q hq => fit_i64 (h q hq)
theorem vw_three (w : World) (a b c : Int) : Vw (w.alloc (.cells #[.int .i64 a, .int .i64 b, .int .i64 c] 2)) (.slice (some ⟨w.heap.size, 0, none⟩) 3 3) [a, b, c] := by
 refine ⟨_, 3, rfl, ⟨Nat.le_refl _, fun e => by cases e⟩, fun i hi => ⟨_, rfl, ?_⟩⟩
 rcases i with _ | _ | _ | i
 ·simp [zth, Addr.add]
 ·simp [zth, Addr.add]
 ·simp [zth, Addr.add]
 ·simp at hi; omega
theorem ord_len {x y : Nat} (h : nl x < nl y) : x < y := by
 have h1 := lt_bp_nl x
 have h2 := bp_le_nl (show 0 < nl y by omega)
 have h3 := bp_mono (show nl x <= nl y - 1 by omega)
 omega
set_option maxHeartbeats 1000000 in
theorem cmp_am {x y : Nat} {va vb : Value} {w : World} (ha : Am w va x) (hb : Am w vb y) (_ : nl x < 1000000) (hy : nl y < 1000000) :
   Calls Tryz.prog 61 #[va, vb] w fun e w' => e = .returned (.int .i64 (ordZ x y)) /\ Up w w' := by
 obtain ⟨a, ca, rfl, hca1, hca0⟩ := ha.open
 obtain ⟨b, cb, rfl, hcb1, hcb0⟩ := hb.open
 clear ha hb
 rcases Nat.lt_trichotomy (nl x) (nl y) with h | h | h
 ·have e : ordZ x y = -1 := by unfold ordZ; rw [if_pos (ord_len h)]
  rw [e]
  have d0 : ((nl x : Int) != (nl y : Nat)) = true := by simp; omega
  have d1 : decide ((nl x : Int) < (nl y : Nat)) = true := decide_eq_true (by omega)
  clear e hca0 hcb0
  generalize nl x = p at *
  generalize nl y = q at *
  go_enter Tryz.func61, Tryz.ntmps61
  go_wp2
  go_ret
  exact ⟨rfl, gUp⟩
 ·have H := hid h
  go_enter Tryz.func61, Tryz.ntmps61
  rw [h]
  clear h
  go_wp2
  go_loopw [5] (fun i wr => ∃ m : Nat, m <= nl y /\ i = .int .i64 ((m : Int) - 1) /\ (∀ i, m <= i -> i < nl y -> limb x i = limb y i) /\ Below w.heap.size w wr)
   (fun i _ => (intOf i + 1).toNat)
  case atStart => exact ⟨nl y, Nat.le_refl _, rfl, fun i h1 h2 => by omega, Below.refl _ _⟩
  case round =>
   obtain ⟨m, hm, rfl, hgx, hB⟩ := hrel
   have Hgx := hid hgx
   clear hgx
   by_cases hlt : 0 < m
   ·obtain ⟨k, rfl⟩ : ∃ k, m = k + 1 := ⟨m - 1, by omega⟩
    have e : (((k + 1 : Nat) : Int) - 1) = (k : Int) := by omega
    rw [e]
    clear e
    have hHy := H.out
    obtain ⟨ba, rfl, hba, hca⟩ := hca0 k (by omega)
    obtain ⟨bb, rfl, hbb, hcb⟩ := hcb0 k (by omega)
    clear hHy
    have hcx := hca wr hB
    have hcy := hcb wr hB
    have hl1 := limb_lt x k
    have hl2 := limb_lt y k
    have sx : sumL (limb x) (nl y) = x := by rw [<- H.out]; exact sum_nl x
    have sy := sum_nl y
    have h1 : limb x k < limb y k -> ordZ x y = -1 := fun h => by
     have := sumL_lt_of (fun i _ => limb_lt x i) (show k < nl y by omega) (fun j h1 h2 => Hgx.out j (by omega) h2) h
     rw [sx, sy] at this
     simp [ordZ, this]
    have h2 : limb y k < limb x k -> ordZ x y = 1 := fun h => by
     have := sumL_lt_of (fun i _ => limb_lt y i) (show k < nl y by omega) (fun j h1 h2 => (Hgx.out j (by omega) h2).symm) h
     rw [sx, sy] at this
     have h3 : ¬ x < y := by omega
     simp [ordZ, this, h3]
    have hE : limb x k = limb y k -> ∀ i, k <= i -> i < nl y -> limb x i = limb y i := fun h i h1 h2 => by
     by_cases e : i = k
     ·rw [e]; exact h
     ·exact Hgx.out i (by omega) h2
    have H1 := hid h1
    have H2 := hid h2
    have HE := hid hE
    clear sx sy h1 h2 hE hca hcb hca0 hcb0
    generalize limb x k = lx at *
    generalize limb y k = ly at *
    rcases Nat.lt_trichotomy lx ly with h | h | h
    ·have d0 : ((lx : Int) != ly) = true := by simp; omega
     have d1 : decide ((lx : Int) < ly) = true := decide_eq_true (by omega)
     go_wp2
     go_quiet (fail)
     go_wp2
     go_quiet (fail)
     go_wp2
     go_ret
     exact ⟨ret_int (H1.out h).symm, below_drewN (below_drewN hB _) _⟩
    ·have HF := hid (HE.out h)
     have d0 : ((lx : Int) != ly) = false := by simp; omega
     clear HE
     go_wp2
     go_quiet (fail)
     go_wp2
     go_roundw
     case rel => exact ⟨k, by omega, by go_num, HF.out, below_drewN hB _⟩
     case measure => simp [intOf] <;> omega
    ·have d0 : ((lx : Int) != ly) = true := by simp; omega
     have d1 : decide ((lx : Int) < ly) = false := decide_eq_false (by omega)
     go_wp2
     go_quiet (fail)
     go_wp2
     go_quiet (fail)
     go_wp2
     go_ret
     exact ⟨ret_int (H2.out h).symm, below_drewN (below_drewN hB _) _⟩
   ·obtain rfl : m = 0 := by omega
    have h0 : x = y := by
     rw [<- sum_nl x, <- sum_nl y, H.out]
     exact sumL_congr fun i hi => Hgx.out i (by omega) hi
    have H0 := hid h0
    clear h0
    go_wp2
    go_ret
    exact ⟨ret_int (by simp [ordZ, H0.out]), hB⟩
 ·have e : ordZ x y = 1 := by
   have := ord_len h
   unfold ordZ
   rw [if_neg (by omega)]
   first | rw [if_neg (by omega)] | rw [if_pos (by omega)]
  rw [e]
  have d0 : ((nl x : Int) != (nl y : Nat)) = true := by simp; omega
  have d1 : decide ((nl x : Int) < (nl y : Nat)) = false := decide_eq_false (by omega)
  clear e hca0 hcb0
  generalize nl x = p at *
  generalize nl y = q at *
  go_enter Tryz.func61, Tryz.ntmps61
  go_wp2
  go_ret
  exact ⟨rfl, gUp⟩
theorem Am.setRow {w : World} {v : Value} {x g : Nat} {C D : Array Value} (h : Am w v x) (hg : Blk w g 66 C) : Am (w.setRow g D) v x := by
 obtain ⟨a, c, h1, h2, h3⟩ := h
 refine ⟨a, c, h1, h2, fun h0 => ?_⟩
 obtain ⟨b, E, h4, h6, h7⟩ := h3 h0
 refine ⟨b, E, h4, h6.row_other D ?_, h7⟩
 rintro rfl
 unfold Blk at *
 rw [hg] at h6
 simp at h6
theorem Big.setRow {w : World} {v : Value} {z : Int} {g : Nat} {C D : Array Value} (h : Big w v z) (hg : Blk w g 66 C) : Big (w.setRow g D) v z := by
 obtain ⟨a, c, h1, h2⟩ := h
 exact ⟨a, c, h1, h2.setRow hg⟩
theorem Big.shape {w : World} {v : Value} {z : Int} (h : Big w v z) : ∃ b a n c, v = .agg #[.bool b, .slice a n c] := by
 obtain ⟨a, c, h1, _⟩ := h
 exact ⟨_, a, _, c, h1⟩
theorem pm_int (z : Int) : z = pm (decide (z < 0)) z.natAbs := by
 by_cases h : z < 0 <;> simp [pm, h] <;> omega
theorem pm_same (p : Bool) (X Y : Nat) : pm p X + pm p Y = pm p (X + Y) := by cases p <;> simp [pm] <;> omega
theorem pm_more {p : Bool} {X Y : Nat} (h : Y <= X) : pm p X + pm (!p) Y = pm p (X - Y) := by cases p <;> simp [pm] <;> omega
theorem pm_less {p : Bool} {X Y : Nat} (h : X < Y) : pm p X + pm (!p) Y = pm (!p) (Y - X) := by cases p <;> simp [pm] <;> omega
set_option maxHeartbeats 1000000 in
theorem add_pm (p q : Bool) (X Y : Nat) (a b : Option Addr) (ca cb : Nat) (w : World) (hA : Am w (.slice a (nl X) ca) X) (hB : Am w (.slice b (nl Y) cb) Y) (hx : nl X < 50000) (hy : nl Y < 50000) :
   Calls Tryz.prog 35 #[.agg #[.bool p, .slice a (nl X) ca], .agg #[.bool q, .slice b (nl Y) cb]] w fun e w' => Up w w' /\ ∃ v, e = .returned v /\ Big w' v (pm p X + pm q Y) := by
 by_cases hpq : p = q
 ·subst hpq
  rw [pm_same]
  go_enter Tryz.func35, Tryz.ntmps35
  go_wp2
  refine opU (S := (fun wq => Blk wq (w.heap.size + 1 + 1) 66 #[.bool false, .slice none 0 0] /\ wq.cell? ⟨w.heap.size, 0, none⟩ = some (.bool p) /\ wq.cell? ⟨w.heap.size, 1, none⟩ = some (.slice a (nl X) ca) /\ wq.cell? ⟨w.heap.size + 1, 1, none⟩ = some (.slice b (nl Y) cb) /\ Below w.heap.size w wq)) (req := (fun j => j != 8)) (fun _ _ h hu => ⟨(h.1).up hu, hu.cell (h.2.1), hu.cell (h.2.2.1), hu.cell (h.2.2.2.1), below_up (h.2.2.2.2) hu⟩) ⟨gBlk, (by first | assumption | (apply Blk.cell; exact gBlk; exact rfl)), (by first | assumption | (apply Blk.cell; exact gBlk; exact rfl)), (by first | assumption | (apply Blk.cell; exact gBlk; exact rfl)), gUp⟩ (fun wS hSS hSu => ?_)
  have ⟨hS1, hS2, hS3, hS4, hSB⟩ := hSS
  refine tkP 0 (some 10) hSu ?_
  refine tkT 1 (some 11) rfl hSu hSS ?_ (hy := fun w' hSw => by ((try dsimp only at hSw); (try obtain ⟨_, _, _, _, _⟩ := hSw); go_simp; (try exact rfl)))
  refine tkP 2 (some 12) hSu ?_
  refine tkT 3 (some 13) rfl hSu hSS ?_ (hy := fun w' hSw => by ((try dsimp only at hSw); (try obtain ⟨_, _, _, _, _⟩ := hSw); go_simp; (try exact rfl)))
  refine tkP 4 (some 14) hSu ?_
  refine tkT 5 (some 15) rfl hSu hSS ?_ (hy := fun w' hSw => by ((try dsimp only at hSw); (try obtain ⟨_, _, _, _, _⟩ := hSw); go_simp; (try exact rfl)))
  refine wpAnyU_callE (i := 6) (d := (some 16)) rfl rfl (by kernel_rfl) (by rfl) hSu.out (fun w' => by go_simp) (fun w' hw' => plus_am (hA.up (below_up hSB hw')) (hB.up (below_up hSB hw')) (by omega) (by omega)) fun vP wP hwP hRP => ?_
  try simp only [Act.put, pu1, pu2, pu3]
  obtain ⟨a1, c1, rfl⟩ := hRP.shape
  refine wpAnyU_callE (i := 7) (d := (some 17)) rfl rfl (by kernel_rfl) (by rfl) hSu.out (fun w' => by go_simp) (fun w' hw' => callE_of (made_any p a1 (nl (X + Y)) c1 w')) fun vM wM hwM hRM => ?_
  try simp only [Act.put, pu1, pu2, pu3]
  subst hRM
  refine wpAnyU_one (i := 8) rfl (by kernel_rfl) (by rfl) fun w2 hw2 => ?_
  have gK := ((hS1.up hwP).up hwM).up hw2
  refine wp_stB rfl rfl rfl rfl gK rfl rfl (one2 _ _ _ _) ?_
  refine ⟨fun h => by simp at h, ?_⟩
  try simp only [Act.put, pu1, pu2, pu3]
  refine wpAnyU_done (by kernel_rfl) (fun wF huE => ?_) _
  have gR := (gK.setRow #[.bool (p && decide (0 < nl (X + Y))), .slice a1 (nl (X + Y)) c1]).up huE
  have gA := (((hRP.up hwM).up hw2).setRow (D := #[.bool (p && decide (0 < nl (X + Y))), .slice a1 (nl (X + Y)) c1]) gK).up huE
  have gB := below_up (below_setRow (below_up (below_up (below_up hSB hwP) hwM) hw2) (show w.heap.size <= w.heap.size + 1 + 1 by omega) #[.bool (p && decide (0 < nl (X + Y))), .slice a1 (nl (X + Y)) c1]) huE
  have gBig := big_made p gA
  clear gK hRP hwP hwM hw2 huE hS1 hS2 hS3 hS4 hSB hSS gA
  go_wp2
  exact bodyPost_ret (resB rfl rfl gR rfl) rfl ⟨gB, _, rfl, gBig⟩
 ·have hq : q = !p := by cases p <;> cases q <;> simp_all
  subst hq
  have d0 : (p == !p) = false := by cases p <;> rfl
  clear hpq
  by_cases hc : Y <= X
  ·rw [pm_more hc]
   have d1 : decide (0 <= ordZ X Y) = true := by
    unfold ordZ
    rw [if_neg (by omega)]
    split <;> simp
   go_enter Tryz.func35, Tryz.ntmps35
   go_wp2_with (first | (go_at_call 61; (with_reducible refine (cmp_am (hA.up gUp) (hB.up gUp) (by omega) (by omega)).mono ?_); rintro e wC ⟨rfl, huC⟩))
   refine opU (S := (fun wq => Blk wq (w.heap.size + 1 + 1) 66 #[.bool false, .slice none 0 0] /\ wq.cell? ⟨w.heap.size, 0, none⟩ = some (.bool p) /\ wq.cell? ⟨w.heap.size, 1, none⟩ = some (.slice a (nl X) ca) /\ wq.cell? ⟨w.heap.size + 1, 1, none⟩ = some (.slice b (nl Y) cb) /\ Below w.heap.size w wq)) (req := (fun j => j != 8)) (fun _ _ h hu => ⟨(h.1).up hu, hu.cell (h.2.1), hu.cell (h.2.2.1), hu.cell (h.2.2.2.1), below_up (h.2.2.2.2) hu⟩) ⟨gBlk, (by first | assumption | (apply Blk.cell; exact gBlk; exact rfl)), (by first | assumption | (apply Blk.cell; exact gBlk; exact rfl)), (by first | assumption | (apply Blk.cell; exact gBlk; exact rfl)), gUp⟩ (fun wS hSS hSu => ?_)
   have ⟨hS1, hS2, hS3, hS4, hSB⟩ := hSS
   refine tkP 0 (some 24) hSu ?_
   refine tkT 1 (some 25) rfl hSu hSS ?_ (hy := fun w' hSw => by ((try dsimp only at hSw); (try obtain ⟨_, _, _, _, _⟩ := hSw); go_simp; (try exact rfl)))
   refine tkP 2 (some 26) hSu ?_
   refine tkT 3 (some 27) rfl hSu hSS ?_ (hy := fun w' hSw => by ((try dsimp only at hSw); (try obtain ⟨_, _, _, _, _⟩ := hSw); go_simp; (try exact rfl)))
   refine tkP 4 (some 28) hSu ?_
   refine tkT 5 (some 29) rfl hSu hSS ?_ (hy := fun w' hSw => by ((try dsimp only at hSw); (try obtain ⟨_, _, _, _, _⟩ := hSw); go_simp; (try exact rfl)))
   refine wpAnyU_callE (i := 6) (d := (some 30)) rfl rfl (by kernel_rfl) (by rfl) hSu.out (fun w' => by go_simp) (fun w' hw' => minus_am (hA.up (below_up hSB hw')) (hB.up (below_up hSB hw')) (by omega) hc) fun vP wP hwP hRP => ?_
   try simp only [Act.put, pu1, pu2, pu3]
   obtain ⟨a1, c1, rfl⟩ := hRP.shape
   refine wpAnyU_callE (i := 7) (d := (some 31)) rfl rfl (by kernel_rfl) (by rfl) hSu.out (fun w' => by go_simp) (fun w' hw' => callE_of (made_any p a1 (nl (X - Y)) c1 w')) fun vM wM hwM hRM => ?_
   try simp only [Act.put, pu1, pu2, pu3]
   subst hRM
   refine wpAnyU_one (i := 8) rfl (by kernel_rfl) (by rfl) fun w2 hw2 => ?_
   have gK := ((hS1.up hwP).up hwM).up hw2
   refine wp_stB rfl rfl rfl rfl gK rfl rfl (one2 _ _ _ _) ?_
   refine ⟨fun h => by simp at h, ?_⟩
   try simp only [Act.put, pu1, pu2, pu3]
   refine wpAnyU_done (by kernel_rfl) (fun wF huE => ?_) _
   have gR := (gK.setRow #[.bool (p && decide (0 < nl (X - Y))), .slice a1 (nl (X - Y)) c1]).up huE
   have gA := (((hRP.up hwM).up hw2).setRow (D := #[.bool (p && decide (0 < nl (X - Y))), .slice a1 (nl (X - Y)) c1]) gK).up huE
   have gB := below_up (below_setRow (below_up (below_up (below_up hSB hwP) hwM) hw2) (show w.heap.size <= w.heap.size + 1 + 1 by omega) #[.bool (p && decide (0 < nl (X - Y))), .slice a1 (nl (X - Y)) c1]) huE
   have gBig := big_made p gA
   clear gK hRP hwP hwM hw2 huE hS1 hS2 hS3 hS4 hSB hSS gA
   go_wp2
   exact bodyPost_ret (resB rfl rfl gR rfl) rfl ⟨gB, _, rfl, gBig⟩
  ·rw [pm_less (by omega)]
   have d1 : decide (0 <= ordZ X Y) = false := by
    unfold ordZ
    rw [if_pos (by omega)]
    rfl
   go_enter Tryz.func35, Tryz.ntmps35
   go_wp2_with (first | (go_at_call 61; (with_reducible refine (cmp_am (hA.up gUp) (hB.up gUp) (by omega) (by omega)).mono ?_); rintro e wC ⟨rfl, huC⟩))
   refine opU (S := (fun wq => Blk wq (w.heap.size + 1 + 1) 66 #[.bool false, .slice none 0 0] /\ wq.cell? ⟨w.heap.size + 1, 0, none⟩ = some (.bool (!p)) /\ wq.cell? ⟨w.heap.size + 1, 1, none⟩ = some (.slice b (nl Y) cb) /\ wq.cell? ⟨w.heap.size, 1, none⟩ = some (.slice a (nl X) ca) /\ Below w.heap.size w wq)) (req := (fun j => j != 8)) (fun _ _ h hu => ⟨(h.1).up hu, hu.cell (h.2.1), hu.cell (h.2.2.1), hu.cell (h.2.2.2.1), below_up (h.2.2.2.2) hu⟩) ⟨gBlk, (by first | assumption | (apply Blk.cell; exact gBlk; exact rfl)), (by first | assumption | (apply Blk.cell; exact gBlk; exact rfl)), (by first | assumption | (apply Blk.cell; exact gBlk; exact rfl)), gUp⟩ (fun wS hSS hSu => ?_)
   have ⟨hS1, hS2, hS3, hS4, hSB⟩ := hSS
   refine tkP 0 (some 32) hSu ?_
   refine tkT 1 (some 33) rfl hSu hSS ?_ (hy := fun w' hSw => by ((try dsimp only at hSw); (try obtain ⟨_, _, _, _, _⟩ := hSw); go_simp; (try exact rfl)))
   refine tkP 2 (some 34) hSu ?_
   refine tkT 3 (some 35) rfl hSu hSS ?_ (hy := fun w' hSw => by ((try dsimp only at hSw); (try obtain ⟨_, _, _, _, _⟩ := hSw); go_simp; (try exact rfl)))
   refine tkP 4 (some 36) hSu ?_
   refine tkT 5 (some 37) rfl hSu hSS ?_ (hy := fun w' hSw => by ((try dsimp only at hSw); (try obtain ⟨_, _, _, _, _⟩ := hSw); go_simp; (try exact rfl)))
   refine wpAnyU_callE (i := 6) (d := (some 38)) rfl rfl (by kernel_rfl) (by rfl) hSu.out (fun w' => by go_simp) (fun w' hw' => minus_am (hB.up (below_up hSB hw')) (hA.up (below_up hSB hw')) (by omega) (by omega)) fun vP wP hwP hRP => ?_
   try simp only [Act.put, pu1, pu2, pu3]
   obtain ⟨a1, c1, rfl⟩ := hRP.shape
   refine wpAnyU_callE (i := 7) (d := (some 39)) rfl rfl (by kernel_rfl) (by rfl) hSu.out (fun w' => by go_simp) (fun w' hw' => callE_of (made_any (!p) a1 (nl (Y - X)) c1 w')) fun vM wM hwM hRM => ?_
   try simp only [Act.put, pu1, pu2, pu3]
   subst hRM
   refine wpAnyU_one (i := 8) rfl (by kernel_rfl) (by rfl) fun w2 hw2 => ?_
   have gK := ((hS1.up hwP).up hwM).up hw2
   refine wp_stB rfl rfl rfl rfl gK rfl rfl (one2 _ _ _ _) ?_
   refine ⟨fun h => by simp at h, ?_⟩
   try simp only [Act.put, pu1, pu2, pu3]
   refine wpAnyU_done (by kernel_rfl) (fun wF huE => ?_) _
   have gR := (gK.setRow #[.bool ((!p) && decide (0 < nl (Y - X))), .slice a1 (nl (Y - X)) c1]).up huE
   have gA := (((hRP.up hwM).up hw2).setRow (D := #[.bool ((!p) && decide (0 < nl (Y - X))), .slice a1 (nl (Y - X)) c1]) gK).up huE
   have gB := below_up (below_setRow (below_up (below_up (below_up hSB hwP) hwM) hw2) (show w.heap.size <= w.heap.size + 1 + 1 by omega) #[.bool ((!p) && decide (0 < nl (Y - X))), .slice a1 (nl (Y - X)) c1]) huE
   have gBig := big_made (!p) gA
   clear gK hRP hwP hwM hw2 huE hS1 hS2 hS3 hS4 hSB hSS gA
   go_wp2
   exact bodyPost_ret (resB rfl rfl gR rfl) rfl ⟨gB, _, rfl, gBig⟩
theorem add_big {x y : Int} {va vb : Value} {w : World} (ha : Big w va x) (hb : Big w vb y) (hx : nl x.natAbs < 50000) (hy : nl y.natAbs < 50000) :
   Calls Tryz.prog 35 #[va, vb] w fun e w' => Up w w' /\ ∃ v, e = .returned v /\ Big w' v (x + y) := by
 obtain ⟨a, ca, rfl, hA⟩ := ha
 obtain ⟨b, cb, rfl, hB⟩ := hb
 have h := add_pm (decide (x < 0)) (decide (y < 0)) x.natAbs y.natAbs a b ca cb w hA hB hx hy
 rw [<- pm_int, <- pm_int] at h
 exact h
theorem mul64_up (x y : Nat) (hx : x < 18446744073709551616) (hy : y < 18446744073709551616) {h l : Nat} (eh : h = x * y / 18446744073709551616) (el : l = x * y % 18446744073709551616) (w : World) :
   Calls Tryz.prog 91 #[.int .u64 x, .int .u64 y] w fun e w' => e = .returned (.tuple #[.int .u64 (h : Nat), .int .u64 (l : Nat)]) /\ Up w w' := by
 refine (Tryz.bits_Mul64 x y hx hy w).mono ?_
 rintro e w' ⟨rfl, rfl⟩
 exact ⟨by rw [eh, el], Up.refl _⟩
set_option maxHeartbeats 2000000 in
theorem times_am {x y : Nat} {va vb : Value} {w : World} (ha : Am w va x) (hb : Am w vb y) (hx : nl x < 100000) (hy : nl y < 100000) :
   Calls Tryz.prog 63 #[va, vb] w fun e w' => Up w w' /\ ∃ v, e = .returned v /\ Am w' v (x * y) := by
 obtain ⟨a, ca, rfl, hca1, hca0⟩ := ha.open
 obtain ⟨b, cb, rfl, hcb1, hcb0⟩ := hb.open
 have HSX := hid (sum_nl x)
 have HSY := hid (sum_nl y)
 clear ha hb
 generalize nl x = n at *
 generalize nl y = m at *
 go_enter Tryz.func63, Tryz.ntmps63
 go_wp2_with (first | ((with_reducible apply mkP (n := n + m)); exact rfl; (first | rfl | omega); omega))
 go_loopw [6] (fun ti wr => ∃ (i : Nat) (S : Nat -> Nat), i <= n /\ ti = .int .i64 (i : Nat) /\ (∀ j, j < n + m -> S j < 18446744073709551616) /\ sumL S (n + m) = sumL (limb x) i * sumL (limb y) m /\ (∀ j, i + m <= j -> j < n + m -> S j = 0) /\ Row wr w.heap.size 100 (n + m) S /\ Below w.heap.size w wr)
  (fun ti _ => n - (intOf ti).toNat)
 case atStart => exact ⟨0, fun _ => 0, by omega, rfl, fun _ _ => by simp, by rw [sumL_zero, Nat.zero_mul]; exact sumL_zeros _, fun _ _ _ => rfl, row_newc _ _ _ rfl, (by repeat (first | assumption | (with_reducible exact Below.refl _ _) | ((with_reducible apply bl_alloc); (focus (first | exact Nat.le_refl _ | (simp; done) | (simp; omega) | omega)))))⟩
 case round =>
  obtain ⟨i, S, hi, rfl, hSb, hsum, hz, hM, hB⟩ := hrel
  have HSb := hid hSb
  have Hsum := hid hsum
  have Hz := hid hz
  clear hSb hsum hz
  obtain ⟨wo, rfl⟩ : ∃ wo : World, wo = wr := ⟨_, rfl⟩
  by_cases hlt : i < n
  ·obtain ⟨ba, rfl, hba, hca⟩ := hca0 i hlt
   go_wp2
   go_loopw [7, 8] (fun tc tk wi => ∃ (k c : Nat) (S' : Nat -> Nat), k <= m /\ tk = .int .i64 (k : Nat) /\ tc = .int .u64 (c : Nat) /\ c < 18446744073709551616 /\ (∀ j, j < n + m -> S' j < 18446744073709551616) /\
      sumL S' (n + m) + c * (bp i * bp k) = sumL (limb x) i * sumL (limb y) m + limb x i * bp i * sumL (limb y) k /\ (∀ j, i + m <= j -> j < n + m -> S' j = 0) /\ Row wi w.heap.size 100 (n + m) S' /\ Below w.heap.size w wi)
    (fun _ tk _ => m - (intOf tk).toNat)
   case atStart => exact ⟨0, 0, S, by omega, rfl, rfl, by omega, HSb.out, by rw [sumL_zero, Hsum.out]; omega, Hz.out, hM, hB⟩
   case round =>
    clear hM hB HSb Hsum Hz
    obtain ⟨k, c, S', hk, rfl, rfl, hc, hSb, hsum, hz, hM, hB⟩ := hrel
    have HSb := hid hSb
    have Hsum := hid hsum
    have Hz := hid hz
    clear hSb hsum hz
    by_cases hkt : k < m
    ·obtain ⟨bb, rfl, hbb, hcb⟩ := hcb0 k hkt
     have hcx := hca _ hB
     have hcy := hcb _ hB
     obtain ⟨h, eh⟩ : ∃ h, h = limb x i * limb y k / 18446744073709551616 := ⟨_, rfl⟩
     obtain ⟨l, el⟩ : ∃ l, l = limb x i * limb y k % 18446744073709551616 := ⟨_, rfl⟩
     have hlx' := limb_lt x i
     have hly' := limb_lt y k
     have HM := hid (fun w => mul64_up _ _ hlx' hly' eh el w)
     have hsk := HSb.out (i + k) (by omega)
     obtain ⟨r1, c1, HA, e1, f1⟩ : ∃ r c : Nat, (∀ w, (callFunc 89 #[.int .u64 (l : Nat), .int .u64 (S' (i + k) : Nat), .int .u64 0]).run Tryz.prog w = .ok (.value (.tuple #[.int .u64 (r : Nat), .int .u64 (c : Nat)])) w) /\
      r = (l + S' (i + k) + 0) % 18446744073709551616 /\ c = (l + S' (i + k) + 0) / 18446744073709551616 := ⟨_, _, run_add l (S' (i + k)) 0 (by omega), rfl, rfl⟩
     obtain ⟨r2, c2, HA2, e2, f2⟩ : ∃ r cc : Nat, (∀ w, (callFunc 89 #[.int .u64 (r1 : Nat), .int .u64 (c : Nat), .int .u64 0]).run Tryz.prog w = .ok (.value (.tuple #[.int .u64 (r : Nat), .int .u64 (cc : Nat)])) w) /\
      r = (r1 + c + 0) % 18446744073709551616 /\ cc = (r1 + c + 0) / 18446744073709551616 := ⟨_, _, run_add r1 c 0 (by omega), rfl, rfl⟩
     obtain ⟨g1, g2, g3⟩ := step_arith hlx' hly' hsk hc eh el e1 f1 e2 f2
     obtain ⟨hr, hc', hrc⟩ := step_bound hlx' hly' hsk hc g2 g3
     have Hrc := hid hrc
     obtain ⟨h1, eh1⟩ : ∃ h1, h1 = h + c1 := ⟨_, rfl⟩
     obtain ⟨h2, eh2⟩ : ∃ h2, h2 = h1 + c2 := ⟨_, rfl⟩
     have w1 : IntKind.u64.wrap ((h : Int) + c1) = (h1 : Nat) := by rw [IntKind.wrap_u64]; omega
     have w2 : IntKind.u64.wrap ((h1 : Int) + c2) = (h2 : Nat) := by rw [IntKind.wrap_u64]; omega
     have hh2 : h2 < 18446744073709551616 := by omega
     have Hh2 := hid (show h + c1 + c2 = h2 by omega)
     clear e1 f1 e2 f2 g1 g2 g3 hrc eh el eh1 eh2 hc'
     go_wp2
     refine opU (S := (fun wq => Row wq w.heap.size 100 (n + m) S' /\ wq.cell? ⟨ba, i, none⟩ = some (.int .u64 (limb x i : Nat)) /\ wq.cell? ⟨bb, k, none⟩ = some (.int .u64 (limb y k : Nat)) /\ Below w.heap.size w wq)) (req := (fun _ => true)) (fun _ _ h hu => ⟨(h.1).up hu, hu.cell (h.2.1), hu.cell (h.2.2.1), below_up (h.2.2.2) hu⟩) ⟨gRow, (by first | assumption | (apply Blk.cell; exact gBlk; exact rfl)), (by first | assumption | (apply Blk.cell; exact gBlk; exact rfl)), gUp⟩ (fun wS hSS hSu => ?_)
     have ⟨hS1, hS2, hS3, hSB⟩ := hSS
     clear hcx hcy hM hB
     refine tkP 0 (some 31) hSu ?_
     refine tkP 1 (some 32) hSu ?_
     refine tkP 2 (some 33) hSu ?_
     refine tkT 3 (some 34) rfl hSu hSS ?_ (hy := fun w' hSw => by ((try dsimp only at hSw); (try obtain ⟨_, _, _, _⟩ := hSw); go_simp; (try exact rfl)))
     refine tkP 4 (some 35) hSu ?_
     refine tkP 5 (some 36) hSu ?_
     refine tkP 6 (some 37) hSu ?_
     refine tkT 7 (some 38) rfl hSu hSS ?_ (hy := fun w' hSw => by ((try dsimp only at hSw); (try obtain ⟨_, _, _, _⟩ := hSw); go_simp; (try exact rfl)))
     refine tkC 8 (some 39) rfl hSu hSS ?_ (hy := fun w' hSw => (HM.out _))
     refine tkP 9 (some 30) hSu ?_
     refine tkP 10 (some 40) hSu ?_
     refine tkP 11 (some 41) hSu ?_
     refine tkP 12 (some 9) hSu ?_
     refine tkP 13 (some 10) hSu ?_
     refine wpAnyU_done (by kernel_rfl) (fun wE huE => ?_) _
     have ⟨hS1, hS2, hS3, hSB⟩ := hSu.out _ _ hSS huE
     clear huE hSS
     have E2 : ((i : Int) + (k : Int)).toNat = i + k := by omega
     have E3 : ((n + m : Nat) : Int) = (n : Int) + m := by omega
     have hik : (i : Int) + (k : Int) < (n : Int) + m := by omega
     have hcs := hS1.cell (i + k) (by omega)
     have hfs := hS1.frozen (i + k)
     have gM := hS1.set (i + k) r2
     have gB := hSB.setCell (p := ⟨w.heap.size, i + k, none⟩) (Nat.le_refl _) (.int .u64 (r2 : Nat))
     clear hS1 hS2 hS3 hSB
     go_wp2
     go_roundw
     case rel =>
      refine ⟨k + 1, h2, upd S' (i + k) r2, by omega, by go_num, rfl, hh2, upd_lt HSb.out hr, ?_, fun j h1 h2 => by rw [upd_other _ _ _ (by omega)]; exact Hz.out j h1 h2, gM, gB⟩
      have hu := sumL_upd S' r2 (show i + k < n + m by omega)
      have hr' := Hrc.out
      rw [bp_add] at hu
      rw [Hh2.out] at hr'
      rw [bp_succ, sumL_succ (limb y) k, <- Nat.mul_assoc (bp i)]
      exact times_step Hsum.out hu hr'
     case measure => simp [intOf] <;> omega
    ·obtain rfl : k = m := by omega
     have E2 : ((i : Int) + (k : Int)).toNat = i + k := by omega
     have E3 : ((n + k : Nat) : Int) = (n : Int) + k := by omega
     have hik : (i : Int) + (k : Int) < (n : Int) + k := by omega
     have hcs := hM.cell (i + k) (by omega)
     have hfs := hM.frozen (i + k)
     have gM := hM.set (i + k) c
     have gB := hB.setCell (p := ⟨w.heap.size, i + k, none⟩) (Nat.le_refl _) (.int .u64 (c : Nat))
     clear hM hB
     go_wp2
     go_roundw
     case rel =>
      refine ⟨i + 1, upd S' (i + k) c, by omega, by go_num, upd_lt HSb.out hc, ?_, fun j h1 h2 => by rw [upd_other _ _ _ (by omega)]; exact Hz.out j (by omega) h2, gM, gB⟩
      have h2 := sumL_upd S' c (show i + k < n + k by omega)
      have h3 := Hz.out (i + k) (Nat.le_refl _) (by omega)
      have h4 := Hsum.out
      rw [bp_add, h3, Nat.zero_mul, Nat.add_zero] at h2
      rw [h2, sumL_succ (limb x) i, Nat.add_mul]
      exact h4
     case measure => simp [intOf] <;> omega
  ·obtain rfl : i = n := by omega
   have he := Hsum.out
   rw [HSX.out, HSY.out] at he
   have ht := trim_row w.heap.size (i + m) (i + m) (i + m) S wo hM (Nat.le_refl _) (Nat.le_refl _) (by omega)
   have hres := am_row (c := i + m) hM (Nat.le_refl _) (Nat.le_refl _) HSb.out
   rw [he] at hres
   have HT := hid ht
   have HR := hid hres
   clear ht hres he HSb Hsum Hz hM
   go_wp2_with (go_at_call 49; (with_reducible refine HT.out.mono ?_); rintro e w' ⟨rfl, hu⟩)
   go_ret
   exact ⟨below_up hB hu, _, rfl, HR.out.up hu⟩
theorem pm_times (p q : Bool) (X Y : Nat) : pm p X * pm q Y = pm (p != q) (X * Y) := by
 cases p <;> cases q <;> simp [pm, Int.natCast_mul, Int.neg_mul, Int.mul_neg]
set_option maxHeartbeats 1000000 in
theorem sub_big {x y : Int} {va vb : Value} {w : World} (ha : Big w va x) (hb : Big w vb y) (hx : nl x.natAbs < 50000) (hy : nl y.natAbs < 50000) :
   Calls Tryz.prog 24 #[va, vb] w fun e w' => Up w w' /\ ∃ v, e = .returned v /\ Big w' v (x - y) := by
 obtain ⟨p, a, n, ca, rfl⟩ := ha.shape
 obtain ⟨q, b, m, cb, hq, hn⟩ := big_neg hb
 subst hq
 have hA := hid ha
 have hN := hid hn
 rw [Int.sub_eq_add_neg]
 have hy' : nl (-y).natAbs < 50000 := by rw [Int.natAbs_neg]; exact hy
 clear ha hb hn
 go_enter Tryz.func24, Tryz.ntmps24
 go_wp2
 refine opU (S := (fun wq => Blk wq (w.heap.size + 1 + 1) 66 #[.bool false, .slice none 0 0] /\ Blk wq w.heap.size 66 #[.bool p, .slice a n ca] /\ Blk wq (w.heap.size + 1) 66 #[.bool q, .slice b m cb] /\ Below w.heap.size w wq)) (req := (fun j => j != 4)) (fun _ _ h hu => ⟨(h.1).up hu, (h.2.1).up hu, (h.2.2.1).up hu, below_up (h.2.2.2) hu⟩) ⟨gBlk, gBlk, gBlk, gUp⟩ (fun wS hSS hSu => ?_)
 have ⟨hS1, hS2, hS3, hSB⟩ := hSS
 refine tkT 0 (some 5) rfl hSu hSS ?_ (hy := fun w' hSw => run_ldB rfl rfl hSw.2.1 rfl)
 refine tkT 1 (some 6) rfl hSu hSS ?_ (hy := fun w' hSw => run_ldB rfl rfl hSw.2.2.1 rfl)
 refine tkC 2 (some 7) rfl hSu hSS ?_ (hy := fun w' hSw => (neg_any q b m cb w'))
 refine wpAnyU_callE (i := 3) (d := (some 8)) rfl rfl (by kernel_rfl) (by rfl) hSu.out (fun w' => by go_simp) (fun w' hw' => add_big (hA.out.up (below_up hSB hw')) (hN.out.up (below_up hSB hw')) hx hy') fun vA wA hwA hRA => ?_
 try simp only [Act.put, pu1, pu2, pu3]
 obtain ⟨b1, a1, n1, c1, rfl⟩ := hRA.shape
 refine wpAnyU_one (i := 4) rfl (by kernel_rfl) (by rfl) fun w2 hw2 => ?_
 have gK := (hS1.up hwA).up hw2
 refine wp_stB rfl rfl rfl rfl gK rfl rfl (one2 _ _ _ _) ?_
 refine ⟨fun h => by simp at h, ?_⟩
 try simp only [Act.put, pu1, pu2, pu3]
 refine wpAnyU_done (by kernel_rfl) (fun wF huE => ?_) _
 have gR := (gK.setRow #[.bool b1, .slice a1 n1 c1]).up huE
 have gA := ((hRA.up hw2).setRow (D := #[.bool b1, .slice a1 n1 c1]) gK).up huE
 have gB := below_up (below_setRow (below_up (below_up hSB hwA) hw2) (show w.heap.size <= w.heap.size + 1 + 1 by omega) #[.bool b1, .slice a1 n1 c1]) huE
 clear gK hRA hwA hw2 huE hS1 hS2 hS3 hSB hSS
 go_wp2
 exact bodyPost_ret (resB rfl rfl gR rfl) rfl ⟨gB, _, rfl, gA⟩
set_option maxHeartbeats 1000000 in
theorem mul_pm (p q : Bool) (X Y : Nat) (a b : Option Addr) (ca cb : Nat) (w : World) (hA : Am w (.slice a (nl X) ca) X) (hB : Am w (.slice b (nl Y) cb) Y) (hx : nl X < 50000) (hy : nl Y < 50000) :
   Calls Tryz.prog 38 #[.agg #[.bool p, .slice a (nl X) ca], .agg #[.bool q, .slice b (nl Y) cb]] w fun e w' => Up w w' /\ ∃ v, e = .returned v /\ Big w' v (pm p X * pm q Y) := by
 rw [pm_times]
 go_enter Tryz.func38, Tryz.ntmps38
 go_wp2
 refine opU (S := (fun wq => Blk wq (w.heap.size + 1 + 1) 66 #[.bool false, .slice none 0 0] /\ wq.cell? ⟨w.heap.size, 0, none⟩ = some (.bool p) /\ wq.cell? ⟨w.heap.size + 1, 0, none⟩ = some (.bool q) /\ wq.cell? ⟨w.heap.size, 1, none⟩ = some (.slice a (nl X) ca) /\ wq.cell? ⟨w.heap.size + 1, 1, none⟩ = some (.slice b (nl Y) cb) /\ Below w.heap.size w wq)) (req := (fun j => j != 11)) (fun _ _ h hu => ⟨(h.1).up hu, hu.cell (h.2.1), hu.cell (h.2.2.1), hu.cell (h.2.2.2.1), hu.cell (h.2.2.2.2.1), below_up (h.2.2.2.2.2) hu⟩) ⟨gBlk, (by first | assumption | (apply Blk.cell; exact gBlk; exact rfl)), (by first | assumption | (apply Blk.cell; exact gBlk; exact rfl)), (by first | assumption | (apply Blk.cell; exact gBlk; exact rfl)), (by first | assumption | (apply Blk.cell; exact gBlk; exact rfl)), gUp⟩ (fun wS hSS hSu => ?_)
 have ⟨hS1, hS2, hS3, hS4, hS5, hSB⟩ := hSS
 refine tkP 0 (some 5) hSu ?_
 refine tkT 1 (some 6) rfl hSu hSS ?_ (hy := fun w' hSw => by ((try dsimp only at hSw); (try obtain ⟨_, _, _, _, _, _⟩ := hSw); go_simp; (try exact rfl)))
 refine tkP 2 (some 7) hSu ?_
 refine tkT 3 (some 8) rfl hSu hSS ?_ (hy := fun w' hSw => by ((try dsimp only at hSw); (try obtain ⟨_, _, _, _, _, _⟩ := hSw); go_simp; (try exact rfl)))
 refine tkP 4 (some 9) hSu ?_
 refine tkP 5 (some 10) hSu ?_
 refine tkT 6 (some 11) rfl hSu hSS ?_ (hy := fun w' hSw => by ((try dsimp only at hSw); (try obtain ⟨_, _, _, _, _, _⟩ := hSw); go_simp; (try exact rfl)))
 refine tkP 7 (some 12) hSu ?_
 refine tkT 8 (some 13) rfl hSu hSS ?_ (hy := fun w' hSw => by ((try dsimp only at hSw); (try obtain ⟨_, _, _, _, _, _⟩ := hSw); go_simp; (try exact rfl)))
 refine wpAnyU_callE (i := 9) (d := (some 14)) rfl rfl (by kernel_rfl) (by rfl) hSu.out (fun w' => by go_simp) (fun w' hw' => times_am (hA.up (below_up hSB hw')) (hB.up (below_up hSB hw')) (by omega) (by omega)) fun vP wP hwP hRP => ?_
 try simp only [Act.put, pu1, pu2, pu3]
 obtain ⟨a1, c1, rfl⟩ := hRP.shape
 refine wpAnyU_callE (i := 10) (d := (some 15)) rfl rfl (by kernel_rfl) (by rfl) hSu.out (fun w' => by go_simp) (fun w' hw' => callE_of (made_any (!(p == q)) a1 (nl (X * Y)) c1 w')) fun vM wM hwM hRM => ?_
 try simp only [Act.put, pu1, pu2, pu3]
 subst hRM
 refine wpAnyU_one (i := 11) rfl (by kernel_rfl) (by rfl) fun w2 hw2 => ?_
 have gK := ((hS1.up hwP).up hwM).up hw2
 refine wp_stB rfl rfl rfl rfl gK rfl rfl (one2 _ _ _ _) ?_
 refine ⟨fun h => by simp at h, ?_⟩
 try simp only [Act.put, pu1, pu2, pu3]
 refine wpAnyU_done (by kernel_rfl) (fun wF huE => ?_) _
 have gR := (gK.setRow #[.bool ((!(p == q)) && decide (0 < nl (X * Y))), .slice a1 (nl (X * Y)) c1]).up huE
 have gA := (((hRP.up hwM).up hw2).setRow (D := #[.bool ((!(p == q)) && decide (0 < nl (X * Y))), .slice a1 (nl (X * Y)) c1]) gK).up huE
 have gB := below_up (below_setRow (below_up (below_up (below_up hSB hwP) hwM) hw2) (show w.heap.size <= w.heap.size + 1 + 1 by omega) #[.bool ((!(p == q)) && decide (0 < nl (X * Y))), .slice a1 (nl (X * Y)) c1]) huE
 have gBig := big_made (!(p == q)) gA
 clear gK hRP hwP hwM hw2 huE hS1 hS2 hS3 hS4 hS5 hSB hSS gA
 go_wp2
 exact bodyPost_ret (resB rfl rfl gR rfl) rfl ⟨gB, _, rfl, gBig⟩
theorem mul_big {x y : Int} {va vb : Value} {w : World} (ha : Big w va x) (hb : Big w vb y) (hx : nl x.natAbs < 50000) (hy : nl y.natAbs < 50000) :
   Calls Tryz.prog 38 #[va, vb] w fun e w' => Up w w' /\ ∃ v, e = .returned v /\ Big w' v (x * y) := by
 obtain ⟨a, ca, rfl, hA⟩ := ha
 obtain ⟨b, cb, rfl, hB⟩ := hb
 have h := mul_pm (decide (x < 0)) (decide (y < 0)) x.natAbs y.natAbs a b ca cb w hA hB hx hy
 rw [<- pm_int, <- pm_int] at h
 exact h
theorem row_one {w : World} {b X : Nat} (h : b = w.heap.size) : Row (w.alloc (.cells #[.int .u64 (X : Nat)] 100)) b 100 1 (fun _ => X) :=
 row_new _ 1 _ _ h (by unfold cells; rfl)
theorem am_one {w : World} {b X : Nat} (hX : X < 18446744073709551616) (h0 : 0 < X) (hR : Row w b 100 1 (fun _ => X)) : Am w (.slice (some ⟨b, 0, none⟩) 1 1) X /\ nl X = 1 := by
 have h := am_row (n := 1) (c := 1) hR (Nat.le_refl _) (Nat.le_refl _) (fun _ _ => hX)
 have e1 : sumL (fun _ => X) 1 = X := by rw [sumL_succ, sumL_zero, bp_zero]; omega
 have e2 : lenL (fun _ => X) 1 = 1 := by rw [lenL_succ, if_neg (by omega)]
 have e3 := nl_sum (S := fun _ => X) (n := 1) (fun _ _ => hX)
 rw [e1, e2] at h e3
 exact ⟨h, e3⟩
theorem of_big (v : Int) (h1 : -9223372036854775808 <= v) (h2 : v < 9223372036854775808) (w : World) :
   Calls Tryz.prog 25 #[.int .i64 v] w fun e w' => Up w w' /\ ∃ u, e = .returned u /\ Big w' u v := by
 obtain ⟨X, hX⟩ : ∃ X, X = v.natAbs := ⟨_, rfl⟩
 by_cases h0 : v < 0
 ·have d0 : decide (v < 0) = true := decide_eq_true h0
  have e1 : IntKind.i64.wrap (v + 1) = v + 1 := IntWalk.i64_in _ (by omega)
  have e2 : IntKind.i64.wrap (-(v + 1)) = -(v + 1) := IntWalk.i64_in _ (by omega)
  obtain ⟨Y, hY⟩ : ∃ Y : Nat, (Y : Int) = -(v + 1) := ⟨(-(v + 1)).toNat, by omega⟩
  have e3 : IntKind.u64.wrap (-(v + 1)) = (Y : Nat) := by rw [IntKind.wrap_u64]; omega
  have e4 : IntKind.u64.wrap ((Y : Int) + 1) = (X : Nat) := by rw [IntKind.wrap_u64]; omega
  have HM := hid (fun a n c w => made_any true a n c w)
  have HX := hid hX
  have HX64 := hid (show X < 18446744073709551616 /\ 0 < X by omega)
  clear hX hY
  go_enter Tryz.func25, Tryz.ntmps25
  go_wp2_with (first | ((with_reducible apply stB_P); exact rfl; exact rfl; exact gBlk; exact rfl; exact rfl; exact one2 _ _ _ _) | (go_at_call 47; (with_reducible refine (HM.out _ _ _ _).mono ?_); rintro e wM ⟨rfl, hu⟩))
  have hR : Row ((w.alloc (Obj.cells #[Value.bool false, Value.slice none 0 0] 66)).alloc (Obj.cells #[Value.int IntKind.u64 (X : Nat)] 100)) (w.heap.size + 1) 100 1 (fun _ => X) := row_one (by simp)
  have hA := am_one HX64.out.1 HX64.out.2 (hR.up hu)
  have hB := big_made true (hA.2.symm ▸ hA.1)
  have hv : pm true X = v := by have := HX.out; simp only [pm, if_true]; omega
  rw [hv, hA.2, show (true && decide (0 < 1)) = true from rfl] at hB
  have hK : Blk wM w.heap.size 66 #[.bool false, .slice none 0 0] := gBlk
  exact bodyPost_ret (resB rfl rfl (hK.setRow _) rfl) rfl ⟨gUp, _, rfl, hB.setRow hK⟩
 ·have d0 : decide (v < 0) = false := decide_eq_false h0
  have e3 : IntKind.u64.wrap v = (X : Nat) := by rw [IntKind.wrap_u64]; omega
  have HM := hid (fun a n c w => made_any false a n c w)
  have HX := hid hX
  have HX64 := hid (show X < 18446744073709551616 by omega)
  clear hX
  have eS : sumL (fun _ => X) 1 = X := by rw [sumL_succ, sumL_zero, bp_zero]; omega
  have eL : lenL (fun _ => X) 1 = nl X := by
   have e3 := nl_sum (S := fun _ => X) (n := 1) (fun _ _ => HX64.out)
   rw [eS] at e3
   exact e3.symm
  have hR : Row ((w.alloc (Obj.cells #[Value.bool false, Value.slice none 0 0] 66)).alloc (Obj.cells #[Value.int IntKind.u64 (X : Nat)] 100)) (w.heap.size + 1) 100 1 (fun _ => X) := row_one (by simp)
  have hT := trim_row (w.heap.size + 1) 1 1 1 (fun _ => X) _ hR (Nat.le_refl _) (Nat.le_refl _) (by decide)
  have hA := am_row (c := 1) hR (Nat.le_refl _) (Nat.le_refl _) (fun _ _ => HX64.out)
  rw [eL] at hT hA
  rw [eS] at hA
  have HT := hid hT
  have HA := hid hA
  clear hT hA hR eL eS
  go_enter Tryz.func25, Tryz.ntmps25
  go_wp2_with (first | ((with_reducible apply stB_P); exact rfl; exact rfl; exact gBlk; exact rfl; exact rfl; exact one2 _ _ _ _) | (go_at_call 47; (with_reducible refine (HM.out _ _ _ _).mono ?_); rintro e wM ⟨rfl, hu⟩) | (go_at_call 49; (with_reducible refine HT.out.mono ?_); rintro e wT ⟨rfl, hv⟩))
  have hB := big_made false ((HA.out.up hv).up hu)
  have hv' : pm false X = v := by have := HX.out; simp only [pm, Bool.false_eq_true, if_false]; omega
  rw [hv', Bool.false_and] at hB
  have hK : Blk wM w.heap.size 66 #[.bool false, .slice none 0 0] := gBlk
  exact bodyPost_ret (resB rfl rfl (hK.setRow _) rfl) rfl ⟨gUp, _, rfl, hB.setRow hK⟩
theorem sgn_cmp {x y : Int} : sgn (x - y) = cmpZ x y := by
 unfold sgn cmpZ
 split <;> split <;> (try split) <;> (try split) <;> first | rfl | omega
theorem cmp_big {x y : Int} {va vb : Value} {w : World} (ha : Big w va x) (hb : Big w vb y) (hx : nl x.natAbs < 50000) (hy : nl y.natAbs < 50000) :
   Calls Tryz.prog 26 #[va, vb] w fun e w' => e = .returned (.int .i64 (cmpZ x y)) /\ Up w w' := by
 obtain ⟨p, a, n, ca, rfl⟩ := ha.shape
 obtain ⟨q, b, m, cb, rfl⟩ := hb.shape
 have hA := hid ha
 have hB := hid hb
 clear ha hb
 go_enter Tryz.func26, Tryz.ntmps26
 go_wp2_with (first | ((with_reducible apply ldB_P); exact rfl; exact rfl; exact gBlk; exact rfl) | (go_at_call 24; (with_reducible refine (sub_big (hA.out.up gUp) (hB.out.up gUp) hx hy).mono ?_); rintro e wS ⟨huS, v, rfl, hv⟩; obtain ⟨a1, c1, rfl, -⟩ := hv) | (go_at_call 50; (with_reducible refine (bsign_any _ _ _ _ _).mono ?_); rintro e wT ⟨rfl, huT⟩))
 go_ret
 exact ⟨ret_int (by rw [sgn_big, sgn_cmp]), gUp⟩
theorem nl_one {X : Nat} (h : nl X = 1) : X < 18446744073709551616 /\ 0 < X /\ limb X 0 = X := by
 have h1 := lt_bp_nl X
 rw [h, bp_succ, bp_zero] at h1
 have h2 := nl_pos_iff.1 (show 0 < nl X by omega)
 refine ⟨by omega, h2, ?_⟩
 rw [limb0, Nat.mod_eq_of_lt (by omega)]
theorem nl_two {X : Nat} (h : 1 < nl X) : 18446744073709551616 <= X := by
 have h1 := bp_le_nl (show 0 < nl X by omega)
 have h2 := bp_mono (show 1 <= nl X - 1 by omega)
 rw [bp_succ, bp_zero] at h2
 omega
set_option maxHeartbeats 1000000 in
theorem int64_big {z : Int} {v : Value} {w : World} (h : Big w v z) (hz : nl z.natAbs < 50000) :
   Calls Tryz.prog 27 #[v] w fun e w' => e = .returned (i64V z) /\ Up w w' := by
 obtain ⟨a, c, rfl, hA⟩ := h
 obtain ⟨a', c', he, hc, hcell⟩ := hA.open
 obtain ⟨rfl, -, rfl⟩ : a = a' /\ True /\ c = c' := by simpa using he
 clear he hA
 have hpm := pm_int z
 obtain ⟨p, hp⟩ : ∃ p, decide (z < 0) = p := ⟨_, rfl⟩
 obtain ⟨X, hX⟩ : ∃ X, z.natAbs = X := ⟨_, rfl⟩
 rw [hp, hX] at hpm
 rw [hp, hX]
 rw [hX] at hc hcell hz
 rw [hpm]
 clear hpm hp hX
 rcases Nat.lt_trichotomy (nl X) 1 with hn | hn | hn
 ·have h0 : nl X = 0 := by omega
  have hX0 : X = 0 := by
   rcases Nat.eq_zero_or_pos X with h | h
   ·exact h
   ·have := nl_pos h; omega
  have e : i64V (pm p X) = .tuple #[.int .i64 0, .bool true] := by
   subst hX0
   rw [i64V_yes (by cases p <;> simp [pm])]
   cases p <;> simp [pm]
  rw [e, h0]
  clear hcell e
  go_enter Tryz.func27, Tryz.ntmps27
  go_wp2
  go_ret2
  exact ⟨rfl, gUp⟩
 ·obtain ⟨h64, hpos, hl⟩ := nl_one hn
  obtain ⟨b, rfl, hb, hcb⟩ := hcell 0 (by omega)
  rw [hl] at hcb
  rw [hn] at hc ⊢
  clear hcell
  have hcW : ((w.alloc (Obj.cells #[Value.bool p, Value.slice (some { block := b, off := 0 }) 1 c] 66))).cell? ⟨b, 0, none⟩ = some (.int .u64 (X : Nat)) := hcb _ gUp
  clear hcb hl hn
  by_cases h1 : 9223372036854775808 < X
  ·have e : i64V (pm p X) = .tuple #[.int .i64 0, .bool false] := i64V_no (by cases p <;> simp only [pm, Bool.false_eq_true, if_false, if_true] <;> omega)
   rw [e]
   have d1 : decide ((9223372036854775808 : Int) < X) = true := decide_eq_true (by omega)
   clear e
   go_enter Tryz.func27, Tryz.ntmps27
   go_wp2
   go_ret2
   exact ⟨rfl, gUp⟩
  ·have d1 : decide ((9223372036854775808 : Int) < X) = false := decide_eq_false (by omega)
   cases p with
   | true =>
     have e : i64V (pm true X) = .tuple #[.int .i64 (-(X : Int)), .bool true] := i64V_yes (by simp only [pm, if_true]; omega)
     rw [e]
     obtain ⟨Y, hY⟩ : ∃ Y : Nat, Y = X - 1 := ⟨_, rfl⟩
     obtain ⟨Z, hZ⟩ : ∃ Z : Int, Z = -(X : Int) := ⟨_, rfl⟩
     have e1 : IntKind.u64.wrap ((X : Int) - 1) = (Y : Nat) := by rw [IntKind.wrap_u64]; omega
     have e2 : IntKind.i64.wrap (Y : Int) = (Y : Nat) := IntWalk.i64_in _ (by omega)
     have e3 : IntKind.i64.wrap (-(Y : Int)) = -(Y : Int) := IntWalk.i64_in _ (by omega)
     have e4 : IntKind.i64.wrap (-(Y : Int) - 1) = Z := by rw [IntKind.wrap_i64]; omega
     rw [<- hZ]
     have hY1 : Y < 9223372036854775808 := by omega
     clear e hY hZ
     go_enter Tryz.func27, Tryz.ntmps27
     go_wp2
     go_ret2
     exact ⟨rfl, gUp⟩
   | false =>
     by_cases h2 : X = 9223372036854775808
     ·subst h2
      have e : i64V (pm false 9223372036854775808) = .tuple #[.int .i64 0, .bool false] := i64V_no (by simp [pm])
      rw [e]
      clear e
      go_enter Tryz.func27, Tryz.ntmps27
      go_wp2
      go_ret2
      exact ⟨rfl, gUp⟩
     ·have e : i64V (pm false X) = .tuple #[.int .i64 (X : Nat), .bool true] := i64V_yes (by simp only [pm, Bool.false_eq_true, if_false]; omega)
      rw [e]
      have d2 : ((X : Int) == 9223372036854775808) = false := by simp; omega
      have e2 : IntKind.i64.wrap (X : Int) = (X : Nat) := IntWalk.i64_in _ (by omega)
      clear e
      go_enter Tryz.func27, Tryz.ntmps27
      go_wp2
      go_ret2
      exact ⟨rfl, gUp⟩
 ·have h2 := nl_two hn
  have e : i64V (pm p X) = .tuple #[.int .i64 0, .bool false] := i64V_no (by cases p <;> simp only [pm, Bool.false_eq_true, if_false, if_true] <;> omega)
  rw [e]
  clear hcell e
  generalize nl X = n at *
  have d1 : decide ((1 : Int) < (n : Nat)) = true := decide_eq_true (by omega)
  have d0 : ((n : Int) == 0) = false := by simp; omega
  go_enter Tryz.func27, Tryz.ntmps27
  go_wp2
  go_ret2
  exact ⟨rfl, gUp⟩
theorem big_set {w : World} {v : Value} {z : Int} {g : Nat} {C D : Array Value} (hg : Blk w g 66 C) (h : Big w v z) : Big (w.setRow g D) v z := h.setRow hg
theorem big_alloc {w : World} {v : Value} {z : Int} {o : Obj} (h : Big w v z) : Big (w.alloc o) v z := h.up (Up.alloc _ _)
theorem big_amount {w : World} {b : Bool} {a : Option Addr} {n c : Nat} {z : Int} (h : Big w (.agg #[.bool b, .slice a n c]) z) : Big w (.agg #[.bool false, .slice a n c]) ((z.natAbs : Nat) : Int) := by
 obtain ⟨a', c', h1, h2⟩ := h
 obtain ⟨-, rfl, rfl, rfl⟩ : b = decide (z < 0) /\ a = a' /\ n = nl z.natAbs /\ c = c' := by simpa using h1
 exact ⟨_, _, by rw [decide_eq_false (by omega)]; rfl, h2⟩
theorem amount_any (b : Bool) (a : Option Addr) (n c : Nat) (w : World) :
   Calls Tryz.prog 23 #[.agg #[.bool b, .slice a n c]] w fun e w' => e = .returned (.agg #[.bool false, .slice a n c]) /\ Up w w' := by
 have hm := fun w => made_any false a n c w
 rw [Bool.false_and] at hm
 have HM := hid hm
 clear hm
 go_enter Tryz.func23, Tryz.ntmps23
 go_wp2_with (first | ((with_reducible apply stB_P); exact rfl; exact rfl; exact gBlk; exact rfl; exact rfl; exact one2 _ _ _ _) | (go_at_call 47; refine (HM.out _).mono ?_; rintro e w' ⟨rfl, hu⟩))
 exact bodyPost_ret (resB rfl rfl gBlk rfl) rfl ⟨rfl, gUp⟩
theorem fits_gen {z M : Int} {va : Value} {w : World} (ha : Big w va z) (hz : nl z.natAbs < 50000) (h1 : -9223372036854775808 <= M) (h2 : M < 9223372036854775808) (hm : nl M.natAbs < 50000) :
   Calls Tryz.prog 32 #[va, .int .i64 M] w fun e w' => e = .returned (.bool (decide (cmpZ ((z.natAbs : Nat) : Int) M <= 0))) /\ Up w w' := by
 obtain ⟨p, a, n, c, rfl⟩ := ha.shape
 have hA := hid (big_amount ha)
 have HO := hid (fun w => of_big M h1 h2 w)
 have HN : Hid (nl ((z.natAbs : Nat) : Int).natAbs < 50000) := hid hz
 have HM := hid hm
 obtain ⟨o, ho⟩ : ∃ o, decide (cmpZ ((z.natAbs : Nat) : Int) M <= 0) = o := ⟨_, rfl⟩
 rw [ho]
 clear ha h1 h2 hz hm
 go_enter Tryz.func32, Tryz.ntmps32
 go_wp2_with (first | ((with_reducible apply ldB_P); exact rfl; exact rfl; exact gBlk; exact rfl) | (go_at_call 23; (with_reducible refine (amount_any _ _ _ _ _).mono ?_); rintro e wA ⟨rfl, huA⟩) | (go_at_call 25; (with_reducible refine (HO.out _).mono ?_); rintro e wO ⟨huO, u, rfl, hBO⟩; obtain ⟨qo, ao, no, co, rfl⟩ := hBO.shape) | (go_at_call 26; (with_reducible refine (cmp_big (hA.out.up gUp) hBO HN.out HM.out).mono ?_); rintro e wC ⟨rfl, huC⟩))
 go_ret
 exact ⟨rfl, gUp⟩
theorem nl_bp {z : Int} {k : Nat} (hk : k < 50000) (h : z.natAbs < bp k) : nl z.natAbs < 50000 := by have := nl_le h; omega
theorem i64_bp {z : Int} (h : I64 z) : z.natAbs < bp 1 := by unfold I64 at h; rw [bp_succ, bp_zero]; omega
theorem rfits_any {z : Int} {va : Value} {w : World} (ha : Big w va z) (hz : nl z.natAbs < 50000) :
   Calls Tryz.prog 32 #[va, .int .i64 1073741824] w fun e w' => e = .returned (.bool (fit z)) /\ Up w w' := by
 have h := fits_gen (M := 1073741824) ha hz (by omega) (by omega) (nl_bp (k := 1) (by omega) (by rw [bp_succ, bp_zero]; decide))
 have he : decide (cmpZ ((z.natAbs : Nat) : Int) 1073741824 <= 0) = fit z := by
  unfold fit
  rw [decide_eq_decide]
  unfold cmpZ
  split
  ·omega
  ·split <;> omega
 rw [he] at h
 exact h
theorem rat_ent2 {v : Value} {n : Nat} {l : List Int} {i j : Nat} {w : World} (h : Sm w v n l) (n8 : n <= 8) (hln : l.length = triN n) (hij : i <= j) (hj : j < n) :
   Calls Tryz.prog 36 #[v, .int .i64 (i : Nat), .int .i64 (j : Nat)] w fun r w' => r = .returned (.int .i64 (zth l (pos n i j))) /\ Up w w' := by
 have hkl : pos n i j < l.length := by rw [hln]; exact pos_lt hij hj
 have HX := hid (fun w => (pos_idx hij hj) ▸ rat_any (n : Int) (i : Int) (j : Int) (by omega) (by omega) (by omega) (by omega) (by omega) w)
 obtain ⟨k, hk⟩ : ∃ k, pos n i j = k := ⟨_, rfl⟩
 rw [hk] at HX hkl ⊢
 obtain ⟨s, rfl, hV, hN, hl, hlen⟩ := h
 obtain ⟨p, cap, rfl, hcap, hc⟩ := hV
 obtain ⟨ad, rfl, hcell⟩ := hc k hkl
 have hcell' := (Up.alloc w (.cells #[.int .i64 (n : Int), .slice (some ad) l.length cap] 24)).cellEq hcell
 clear hc hl hk hcell hln
 go_enter Tryz.func36, Tryz.ntmps36
 go_wp2_with fail
 go_quiet ((go_at_call 37; exact Calls.quiet_of_same (HX.out _)))
 go_wp2_with fail
 go_ret
 exact ⟨rfl, up_alloc_drewN _ _ _⟩
def diC (N : Int) (l : List Int) (x : Int) : Int := if rt N l then (if (diL N.toNat l x).all fit then 0 else 21) else 23
def diR (N : Int) (l : List Int) (x : Int) : List Int := if diC N l x = 0 then diL N.toNat l x else []
def diN (N : Int) (l : List Int) (x : Int) : Int := if diC N l x = 0 then N else 0
theorem diL_len (n : Nat) (l : List Int) (x : Int) : (diL n l x).length = l.length := mk_len _ _
theorem diL_at {n : Nat} {l : List Int} (x : Int) (hn : n <= 8) (hl : l.length = triN n) {i j : Nat} (hij : i <= j) (hj : j < n) : zth (diL n l x) (pos n i j) = if i = j then zth l (pos n i j) + x else zth l (pos n i j) := by
 unfold diL
 rw [mk_at (by rw [hl]; exact pos_lt hij hj), prs_at hn hij hj]
theorem diL_row {n : Nat} {l : List Int} (x : Int) (hn : n <= 8) (hl : l.length = triN n) {i q : Nat} (hi : i < n) (h1 : pos n i i + 1 <= q) (h2 : q < pos n (i + 1) (i + 1)) : zth (diL n l x) q = zth l q := by
 have hr := pos_row hi
 obtain ⟨j, rfl, hj1, hj2⟩ : ∃ j, q = pos n i j /\ i < j /\ j < n := by
  refine ⟨i + (q - pos n i i), ?_, by omega, ?_⟩ <;> (unfold pos at *; omega)
 rw [diL_at x hn hl (by omega) hj2, if_neg (by omega)]
def rowE (n : Nat) (l : List Int) (i : Nat) : List Int := mk n fun j => ent n l i j
def sqE (n : Nat) (l : List Int) : List (List Int) := (List.range n).map fun i => rowE n l i
theorem mk_take_succ {n : Nat} (f : Nat -> Int) {j : Nat} (hj : j < n) : (mk n f).take (j + 1) = (mk n f).take j ++ [f j] := by
 unfold mk
 rw [take_map_succ f (List.range n) 0 (by simpa using hj), List.getD_eq_getElem?_getD, List.getElem?_range hj]
 rfl
theorem sqE_take_succ (n : Nat) (l : List Int) {i : Nat} (hi : i < n) : (sqE n l).take (i + 1) = (sqE n l).take i ++ [rowE n l i] := by
 unfold sqE
 rw [take_map_succ _ (List.range n) 0 (by simpa using hi), List.getD_eq_getElem?_getD, List.getElem?_range hi]
 rfl
theorem at_right {v : Value} {n : Nat} {l : List Int} {i j : Nat} {w : World} (hm : Sm w v n l) (hR : rt n l = true) (hi : i < n) (hj : j < n) :
   Calls Tryz.prog 98 #[v, .int .i64 (i : Nat), .int .i64 (j : Nat)] w fun r w' => r = .returned (.tuple #[.int .i64 (ent n l i j), .nilIface]) /\ Up w w' := by
 have hr : rng (n : Int) i j = true := decide_eq_true (by omega)
 have h0 : atC (n : Int) l i j = 0 := by unfold atC; rw [hR, if_pos rfl, hr, if_pos rfl]
 have h1 : atV (n : Int) l i j = ent n l i j := by unfold atV; rw [if_pos h0]
 refine (at_any (i : Int) (j : Int) hm).mono ?_
 rintro r w' ⟨u, rfl, hu, he⟩
 rw [h0] at he
 rw [h1]
 rcases he with ⟨-, h⟩ | ⟨h, -⟩
 ·subst h; exact ⟨rfl, hu⟩
 ·exact absurd rfl h
theorem ent_i64 {n : Nat} {l : List Int} (hR : rt n l = true) {i j : Nat} (hi : i < n) (hj : j < n) : I64 (ent n l i j) := by
 obtain ⟨k, _, hk, he⟩ := idx_nat hR (show rng (n : Int) i j = true from decide_eq_true (by omega))
 rw [he]
 exact fit_i64 ((rt_spec hR).2.2.2 k hk)
set_option maxHeartbeats 8000000 in
theorem square_any {v : Value} {n : Nat} {l : List Int} {w : World} (hm : Sm w v n l) (hR : rt n l = true) :
   Calls Tryz.prog 141 #[v] w fun r w' => ∃ z, r = .returned z /\ Up w w' /\ ∃ b, w.heap.size <= b /\ OwnR w' b z (sqE n l) := by
 have n8 : n <= 8 := by have := (rt_spec hR).2.1; omega
 have HAT := hid (fun (i j : Nat) (hi : i < n) (hj : j < n) w' (hu : Up w w') => at_right (hm.up hu) hR hi hj)
 have HO := hid (fun (i j : Nat) (hi : i < n) (hj : j < n) w => of_any (ent n l i j) (ent_i64 hR hi hj).1 (ent_i64 hR hi hj).2 w)
 obtain ⟨s, rfl, ⟨p, cap, rfl, hcap, hc⟩, hN, hl, hlen⟩ := hm
 obtain ⟨wS, hwS⟩ : ∃ x, w.alloc (.cells #[.int .i64 (n : Int), .slice p l.length cap] 24) = x := ⟨_, rfl⟩
 have hB : Blk wS w.heap.size 24 #[.int .i64 (n : Int), .slice p l.length cap] := by rw [<- hwS]; exact Blk.new _ _ rfl
 have hU : Up w wS := by rw [<- hwS]; exact Up.alloc _ _
 have hc0 := hB.cell 0 rfl
 have hsl : (sqE n l).length = n := by unfold sqE; simp
 have HSL := hid hsl
 have HTR := hid (fun i (hi : i < n) => sqE_take_succ n l hi)
 have HTE := hid (fun i j (hj : j < n) => mk_take_succ (n := n) (fun j => ent n l i j) hj)
 clear hc hl hlen hR hsl hN
 unfold wideV at *
 go_enter Tryz.func141, Tryz.ntmps141
 go_wp2_with fail
 clear hwS hc0
 go_loopg [3, 11] n (fun g tr ti wr => ∃ i : Nat, i <= n /\ n - i <= g /\ ti = .int .i64 (i : Nat) /\ OwnR wr wS.heap.size tr ((sqE n l).take i) /\ Up wS wr)
 case atStart => exact ⟨0, Nat.zero_le _, by omega, rfl, by rw [List.take_zero]; exact OwnR.nil _ _, Up.refl _⟩
 case round =>
  obtain ⟨i, hi, hig, rfl, hO, hu⟩ := hrel
  have hc0 := (hB.up hu).cell 0 rfl
  by_cases hlt : i < n
  ·have e1 : IntKind.i64.wrap ((i : Int) + 1) = (i : Int) + 1 := IntWalk.i64_in _ (by omega)
   go_wp2_with fail
   obtain ⟨wO, hwO⟩ : ∃ y, wr = y := ⟨_, rfl⟩
   rw [hwO] at hO hu hc0 ⊢
   clear hwO
   go_loopg [5, 16] n (fun g te tj wr => ∃ j : Nat, j <= n /\ n - j <= g /\ tj = .int .i64 (j : Nat) /\ OwnW wr wO.heap.size te ((rowE n l i).take j) /\ Up wO wr)
   case atStart => exact ⟨0, Nat.zero_le _, by omega, rfl, by rw [List.take_zero]; exact OwnW.nil _ _, Up.refl _⟩
   case round =>
    clear hc0
    obtain ⟨j, hj, hjg, rfl, hE, huj⟩ := hrel
    have hBj := hB.up (hu.trans huj)
    have hc0 := hBj.cell 0 rfl
    by_cases hjlt : j < n
    ·have e2 : IntKind.i64.wrap ((j : Int) + 1) = (j : Int) + 1 := IntWalk.i64_in _ (by omega)
     have HA := hid (fun w' (hu' : Up wr w') => HAT.out i j hlt hjlt w' (hU.trans ((hu.trans huj).trans hu')))
     have HOf := hid (HO.out i j hlt hjlt)
     have HT9 := hid (HTE.out i j hjlt)
     have HTk : Hid (((rowE n l i).take j).length < 1000000) := hid (by rw [List.length_take]; omega)
     have hszj := huj.size
     generalize ent n l i j = z at *
     go_wp2_with (first
      | ((with_reducible apply ldM_P); exact rfl; exact rfl; exact hBj; exact rfl)
      | (go_at_call 98; (with_reducible refine (HA.out _ (Up.refl _)).mono ?_); rintro r w2 ⟨rfl, hu2⟩; have hs2 := hu2.size)
      | (go_at_call 96; (with_reducible refine (HOf.out _).mono ?_); rintro r w3 ⟨rfl, hu3⟩; have hs3 := hu3.size)
      | ((with_reducible apply bsW_P); exact rfl)
      | ((with_reducible apply appW (l := (rowE n l i).take j) (m := [z])); exact rfl; exact rfl; exact OwnW.up ((hu2.trans hu3).trans (Up.alloc _ _)) hE; exact one_range rfl; (focus (simp; omega)); exact HTk.out; (focus (simp; done)); rintro v6 w6 hO6 - hb6))
     go_roundg (n - (j + 1))
     case measure => omega
     case rel => exact ⟨j + 1, hjlt, Nat.le_refl _, rfl, by rw [show rowE n l i = mk n fun j => ent n l i j from rfl, HT9.out]; exact hO6, Below.trans (huj.trans ((hu2.trans hu3).trans (Up.alloc _ _))) hb6⟩
    ·obtain rfl : j = n := by omega
     rw [List.take_of_length_le (by show (mk _ _).length <= _; rw [mk_len]; exact Nat.le_refl _)] at hE
     obtain ⟨pe, ce, rfl⟩ := hE.slice
     have HT9 := hid (HTR.out i hlt)
     have HTk : Hid (((sqE j l).take i).length < 1000000) := hid (by rw [List.length_take]; omega)
     have hszj := huj.size
     have hszu := hu.size
     go_wp2_with (first
      | ((with_reducible apply appR (r := rowE j l i)); exact rfl; exact rfl; exact OwnR.up (huj.trans (Up.alloc _ _)) hO; exact (Blk.new _ _ rfl).cell 0 rfl; exact (hE.up (Up.alloc _ _)).wb (by omega); (focus (simp; omega)); exact HTk.out; rintro v6 w6 hO6 - hb6))
     go_roundg (j - (i + 1))
     case measure => omega
     case rel => exact ⟨i + 1, hlt, Nat.le_refl _, rfl, by rw [HT9.out]; exact hO6, Below.trans ((hu.trans huj).trans (Up.alloc _ _)) hb6⟩
  ·obtain rfl : i = n := by omega
   rw [List.take_of_length_le (by rw [HSL.out]; exact Nat.le_refl _)] at hO
   go_wp2_with fail
   go_ret
   exact ⟨_, rfl, hU.trans hu, _, hU.size, hO⟩
end Go.Proofs.YtahifcannoekhaaGreatDoor
namespace Go.Proofs.YtahifcannoekhaaGreatDoor
def sk (i r : Nat) : Nat := if r < i then r else r + 1
def sg (i : Nat) : Int := if i % 2 = 0 then 1 else -1
def sumN : Nat -> (Nat -> Int) -> Int
 | 0, _ => 0
 | n + 1, f => sumN n f + f n
def det : Nat -> (Nat -> Nat -> Int) -> Int
 | 0, _ => 1
 | n + 1, A => sumN (n + 1) fun i => sg i * A i 0 * det n fun r c => A (sk i r) (c + 1)
theorem sumN_congr {n : Nat} {f g : Nat -> Int} (h : ∀ i, i < n -> f i = g i) : sumN n f = sumN n g := by
 induction n with
 | zero => rfl
 | succ n ih => unfold sumN; rw [ih fun i hi => h i (by omega), h n (by omega)]
theorem sumN_lin {n : Nat} {f g k : Nat -> Int} {x y : Int} (h : ∀ i, i < n -> f i = x * g i + y * k i) : sumN n f = x * sumN n g + y * sumN n k := by
 induction n with
 | zero => simp [sumN]
 | succ n ih => unfold sumN; rw [ih fun i hi => h i (by omega), h n (by omega)]; grind
theorem sumN_zero {n : Nat} {f : Nat -> Int} (h : ∀ i, i < n -> f i = 0) : sumN n f = 0 := by
 induction n with
 | zero => rfl
 | succ n ih => unfold sumN; rw [ih fun i hi => h i (by omega), h n (by omega)]; rfl
theorem sumN_one {n p : Nat} {f : Nat -> Int} (hp : p < n) (h : ∀ i, i < n -> i ≠ p -> f i = 0) : sumN n f = f p := by
 induction n with
 | zero => omega
 | succ n ih =>
   unfold sumN
   by_cases e : p = n
   ·subst e; rw [sumN_zero fun i hi => h i (by omega) (by omega)]; omega
   ·rw [ih (by omega) fun i hi => h i (by omega), h n (by omega) (by omega)]; omega
theorem sumN_two {n p : Nat} {f : Nat -> Int} (hp : p + 1 < n) (h : ∀ i, i < n -> i ≠ p -> i ≠ p + 1 -> f i = 0) (h2 : f p + f (p + 1) = 0) : sumN n f = 0 := by
 induction n with
 | zero => omega
 | succ n ih =>
   unfold sumN
   by_cases e : p + 1 = n
   ·rw [<- e, sumN_one (f := f) (p := p) (n := p + 1) (by omega) fun i hi h1 => h i (by omega) h1 (by omega)]; exact h2
   ·rw [ih (by omega) fun i hi => h i (by omega), h n (by omega) (by omega) (by omega)]; rfl
theorem sk_lt {n i r : Nat} (hr : r < n) : sk i r < n + 1 := by unfold sk; split <;> omega
theorem sk_ne (i r : Nat) : sk i r ≠ i := by unfold sk; split <;> omega
theorem det_congr {n : Nat} {A B : Nat -> Nat -> Int} (h : ∀ i j, i < n -> j < n -> A i j = B i j) : det n A = det n B := by
 induction n generalizing A B with
 | zero => rfl
 | succ n ih =>
   unfold det
   exact sumN_congr fun i hi => by rw [h i 0 hi (by omega), ih fun r c hr hc => h _ _ (sk_lt hr) (by omega)]
def updR (A : Nat -> Nat -> Int) (p : Nat) (u : Nat -> Int) : Nat -> Nat -> Int := fun r c => if r = p then u c else A r c
theorem updR_minor {A : Nat -> Nat -> Int} {p i : Nat} {u : Nat -> Int} (h : i ≠ p) :
   (fun r c => updR A p u (sk i r) (c + 1)) = updR (fun r c => A (sk i r) (c + 1)) (if p < i then p else p - 1) fun c => u (c + 1) := by
 funext r c
 unfold updR
 have : sk i r = p ↔ r = (if p < i then p else p - 1) := by unfold sk; split <;> split <;> omega
 by_cases e : sk i r = p
 ·rw [if_pos e, if_pos (this.1 e)]
 ·rw [if_neg e, if_neg (fun x => e (this.2 x))]
theorem updR_own {A : Nat -> Nat -> Int} {p : Nat} {u : Nat -> Int} :
   (fun r c => updR A p u (sk p r) (c + 1)) = fun r c => A (sk p r) (c + 1) := by
 funext r c
 unfold updR
 rw [if_neg (sk_ne p r)]
theorem det_lin {n p : Nat} (hp : p < n) (A : Nat -> Nat -> Int) (x y : Int) (u v : Nat -> Int) :
   det n (updR A p fun c => x * u c + y * v c) = x * det n (updR A p u) + y * det n (updR A p v) := by
 induction n generalizing A p u v with
 | zero => omega
 | succ n ih =>
   unfold det
   refine sumN_lin fun i hi => ?_
   by_cases e : i = p
   ·subst e
    rw [updR_own, updR_own, updR_own]
    unfold updR
    simp only [if_true]
    grind
   ·rw [updR_minor e, updR_minor e, updR_minor e, ih (p := if p < i then p else p - 1) (by split <;> omega)]
    unfold updR
    rw [if_neg e, if_neg e, if_neg e]
    grind
theorem det_next {n p : Nat} (hp : p + 1 < n) {A : Nat -> Nat -> Int} (h : ∀ c, A p c = A (p + 1) c) : det n A = 0 := by
 induction n generalizing A p with
 | zero => omega
 | succ n ih =>
   unfold det
   refine sumN_two hp (fun i hi h1 h2 => ?_) ?_
   ·by_cases e : i < p
    ·rw [ih (p := p - 1) (by omega) (fun c => by
      rw [show sk i (p - 1) = p from by unfold sk; split <;> omega, show sk i (p - 1 + 1) = p + 1 from by unfold sk; split <;> omega]; exact h _)]
     grind
    ·rw [ih (p := p) (by omega) (fun c => by
      rw [show sk i p = p from by unfold sk; split <;> omega, show sk i (p + 1) = p + 1 from by unfold sk; split <;> omega]; exact h _)]
     grind
   ·have e : (fun r c => A (sk p r) (c + 1)) = fun r c => A (sk (p + 1) r) (c + 1) := by
     funext r c
     by_cases e : r = p
     ·rw [show sk p r = p + 1 from by unfold sk; split <;> omega, show sk (p + 1) r = p from by unfold sk; split <;> omega, h]
     ·rw [show sk p r = sk (p + 1) r from by unfold sk; split <;> split <;> omega]
    rw [e, h 0]
    have e2 : sg (p + 1) = - sg p := by unfold sg; split <;> split <;> omega
    rw [e2]
    grind
theorem updR_comm {A : Nat -> Nat -> Int} {p q : Nat} (h : p ≠ q) (u v : Nat -> Int) : updR (updR A p u) q v = updR (updR A q v) p u := by
 funext r c
 unfold updR
 split <;> split <;> first | rfl | omega
theorem updR_self (A : Nat -> Nat -> Int) (p : Nat) : updR A p (A p) = A := by
 funext r c
 unfold updR
 split <;> simp_all
theorem updR_at (A : Nat -> Nat -> Int) (p : Nat) (u : Nat -> Int) : updR A p u p = u := by
 funext c
 unfold updR
 simp
theorem updR_off {A : Nat -> Nat -> Int} {p r : Nat} (u : Nat -> Int) (h : r ≠ p) : updR A p u r = A r := by
 funext c
 unfold updR
 simp [h]
theorem swap_of {n p q : Nat} (hp : p < n) (hq : q < n) (hpq : p ≠ q)
   (h0 : ∀ A : Nat -> Nat -> Int, (∀ c, A p c = A q c) -> det n A = 0) (A : Nat -> Nat -> Int) :
   det n (updR (updR A p (A q)) q (A p)) = - det n A := by
 have key : ∀ u v : Nat -> Int, det n (updR (updR A p u) q v) + det n (updR (updR A p v) q u) = 0 := fun u v => by
  have z1 := h0 (updR (updR A p fun c => 1 * u c + 1 * v c) q fun c => 1 * u c + 1 * v c) (fun c => by rw [updR_off _ hpq, updR_at, updR_at])
  have z2 := h0 (updR (updR A p u) q u) (fun c => by rw [updR_off _ hpq, updR_at, updR_at])
  have z3 := h0 (updR (updR A p v) q v) (fun c => by rw [updR_off _ hpq, updR_at, updR_at])
  rw [det_lin hq, updR_comm hpq, det_lin hp, updR_comm hpq, det_lin hp, updR_comm (Ne.symm hpq), updR_comm (Ne.symm hpq), updR_comm (Ne.symm hpq), updR_comm (Ne.symm hpq)] at z1
  omega
 have := key (A p) (A q)
 rw [updR_self] at this
 rw [show updR A q (A q) = A from updR_self A q] at this
 omega
theorem det_same {n p q : Nat} (hpq : p < q) (hq : q < n) {A : Nat -> Nat -> Int} (h : ∀ c, A p c = A q c) : det n A = 0 := by
 obtain ⟨d, rfl⟩ : ∃ d, q = p + 1 + d := ⟨q - p - 1, by omega⟩
 induction d generalizing A with
 | zero => exact det_next hq h
 | succ d ih =>
   have hs := swap_of (n := n) (p := p + 1 + d) (q := p + 1 + d + 1) (by omega) (by omega) (by omega) (fun A hA => det_next (by omega) hA) A
   have hz := ih (A := updR (updR A (p + 1 + d) (A (p + 1 + d + 1))) (p + 1 + d + 1) (A (p + 1 + d))) (by omega) (by omega) (fun c => by
    rw [updR_off _ (by omega), updR_off _ (by omega), updR_off _ (by omega), updR_at]; exact h c)
   omega
theorem det_twice {n p q : Nat} (hpq : p ≠ q) (hp : p < n) (hq : q < n) {A : Nat -> Nat -> Int} (h : ∀ c, A p c = A q c) : det n A = 0 := by
 by_cases e : p < q
 ·exact det_same e hq h
 ·exact det_same (show q < p by omega) hp fun c => (h c).symm
theorem det_row {n p q : Nat} (hp : p < n) (hq : q < n) (hpq : p ≠ q) (A : Nat -> Nat -> Int) (x y : Int) :
   det n (updR A p fun c => x * A p c + y * A q c) = x * det n A := by
 rw [det_lin hp, updR_self, det_twice hpq hp hq (A := updR A p (A q)) (fun c => by rw [updR_at, updR_off _ (Ne.symm hpq)])]
 omega
def gone (k : Nat) (A : Nat -> Nat -> Int) : Nat -> Nat -> Int := fun r c => if 0 < r /\ r <= k then A 0 0 * A r c - A r 0 * A 0 c else A r c
theorem det_gone {n : Nat} (A : Nat -> Nat -> Int) : ∀ k, k <= n -> det (n + 1) (gone k A) = A 0 0 ^ k * det (n + 1) A := by
 intro k
 induction k with
 | zero => intro _; rw [show gone 0 A = A from by funext r c; unfold gone; rw [if_neg (by omega)]]; simp
 | succ k ih =>
   intro hk
   have e : gone (k + 1) A = updR (gone k A) (k + 1) fun c => A 0 0 * gone k A (k + 1) c + (- A (k + 1) 0) * gone k A 0 c := by
    funext r c
    unfold updR
    by_cases e : r = k + 1
    ·subst e
     rw [if_pos rfl]
     have z1 : gone (k + 1) A (k + 1) c = A 0 0 * A (k + 1) c - A (k + 1) 0 * A 0 c := by unfold gone; rw [if_pos (by omega)]
     have z2 : gone k A (k + 1) c = A (k + 1) c := by unfold gone; rw [if_neg (by omega)]
     have z3 : gone k A 0 c = A 0 c := by unfold gone; rw [if_neg (by omega)]
     show _ = A 0 0 * gone k A (k + 1) c + (- A (k + 1) 0) * gone k A 0 c
     rw [z1, z2, z3]
     grind
    ·rw [if_neg e]
     unfold gone
     by_cases e2 : 0 < r /\ r <= k
     ·rw [if_pos e2, if_pos (by omega)]
     ·rw [if_neg e2, if_neg (by omega)]
   rw [e, det_row (by omega) (by omega) (by omega), ih (by omega), Int.pow_succ]
   grind
def chio (A : Nat -> Nat -> Int) : Nat -> Nat -> Int := fun i j => A 0 0 * A (i + 1) (j + 1) - A (i + 1) 0 * A 0 (j + 1)
theorem det_chio (n : Nat) (A : Nat -> Nat -> Int) : A 0 0 ^ n * det (n + 1) A = A 0 0 * det n (chio A) := by
 rw [<- det_gone A n (Nat.le_refl n)]
 have h : det (n + 1) (gone n A) = sumN (n + 1) fun i => sg i * gone n A i 0 * det n fun r c => gone n A (sk i r) (c + 1) := rfl
 rw [h, sumN_one (p := 0) (by omega) (fun i hi h0 => by
  rw [show gone n A i 0 = 0 from by unfold gone; rw [if_pos (by omega)]; grind]; simp)]
 have e : det n (fun r c => gone n A (sk 0 r) (c + 1)) = det n (chio A) := det_congr fun r c hr hc => by
  rw [show sk 0 r = r + 1 from rfl]; unfold gone chio; rw [if_pos (by omega)]
 rw [e, show gone n A 0 0 = A 0 0 from by unfold gone; rw [if_neg (by omega)], show sg 0 = 1 from rfl, Int.one_mul]
theorem sumN_abs {n : Nat} {f : Nat -> Int} {b : Nat} (h : ∀ i, i < n -> (f i).natAbs <= b) : (sumN n f).natAbs <= n * b := by
 induction n with
 | zero => simp [sumN]
 | succ n ih =>
   have h1 := ih fun i hi => h i (by omega)
   have h2 := h n (by omega)
   have h3 := Int.natAbs_add_le (sumN n f) (f n)
   show (sumN n f + f n).natAbs <= _
   rw [Nat.succ_mul]
   omega
def fct : Nat -> Nat
 | 0 => 1
 | n + 1 => (n + 1) * fct n
theorem det_abs {n m : Nat} {A : Nat -> Nat -> Int} (h : ∀ i j, i < n -> j < n -> (A i j).natAbs <= m) : (det n A).natAbs <= fct n * m ^ n := by
 induction n generalizing A with
 | zero => simp [det, fct]
 | succ n ih =>
   have h1 : (det (n + 1) A).natAbs <= (n + 1) * (m * (fct n * m ^ n)) := sumN_abs fun i hi => by
    have := ih (A := fun r c => A (sk i r) (c + 1)) fun r c hr hc => h _ _ (sk_lt hr) (by omega)
    rw [Int.natAbs_mul, Int.natAbs_mul, show (sg i).natAbs = 1 from by unfold sg; split <;> rfl, Nat.one_mul]
    exact Nat.mul_le_mul (h i 0 hi (by omega)) this
   rw [show fct (n + 1) * m ^ (n + 1) = (n + 1) * (m * (fct n * m ^ n)) from by rw [show fct (n + 1) = (n + 1) * fct n from rfl, Nat.pow_succ]; grind]
   exact h1
theorem det_two (A : Nat -> Nat -> Int) : det 2 A = A 0 0 * A 1 1 - A 1 0 * A 0 1 := by
 simp [det, sumN, sg, sk]; grind
theorem det_one (A : Nat -> Nat -> Int) : det 1 A = A 0 0 := by
 simp [det, sumN, sg]
theorem det_scale (n : Nat) (x : Int) (A : Nat -> Nat -> Int) : det n (fun i j => x * A i j) = x ^ n * det n A := by
 induction n generalizing A with
 | zero => simp [det]
 | succ n ih =>
   show sumN (n + 1) (fun i => sg i * (x * A i 0) * det n fun r c => x * A (sk i r) (c + 1)) = _ * sumN (n + 1) _
   rw [show ∀ f : Nat -> Int, x ^ (n + 1) * sumN (n + 1) f = x ^ (n + 1) * sumN (n + 1) f + 0 * sumN (n + 1) f from fun f => by omega]
   refine sumN_lin fun i hi => ?_
   rw [ih (fun r c => A (sk i r) (c + 1)), Int.pow_succ]
   grind
def nxt (q : Int) (M : Nat -> Nat -> Int) : Nat -> Nat -> Int := fun i j => (chio M i j).tdiv q
def Good (q : Int) (b : Nat -> Nat) (M : Nat -> Nat -> Int) : Prop :=
 ∀ (r : Nat) (R C : Nat -> Nat), ∃ D : Int, det (r + 1) (fun i j => M (R i) (C j)) = q ^ r * D /\ D.natAbs <= b r
def fst1 (R : Nat -> Nat) : Nat -> Nat
 | 0 => 0
 | i + 1 => R i + 1
theorem Good.entry {q : Int} {b : Nat -> Nat} {M : Nat -> Nat -> Int} (h : Good q b M) (i j : Nat) : (M i j).natAbs <= b 0 := by
 obtain ⟨D, h1, h2⟩ := h 0 (fun _ => i) (fun _ => j)
 rw [det_one, Int.pow_zero, Int.one_mul] at h1
 rw [h1]; exact h2
theorem Good.exact {q : Int} {b : Nat -> Nat} {M : Nat -> Nat -> Int} (h : Good q b M) (hq : q ≠ 0) (i j : Nat) : q * nxt q M i j = chio M i j := by
 obtain ⟨D, h1, _⟩ := h 1 (fst1 fun _ => i) (fst1 fun _ => j)
 rw [det_two, Int.pow_one] at h1
 have e : chio M i j = q * D := h1
 unfold nxt
 rw [e, Int.mul_tdiv_cancel_left _ hq]
theorem chio_fst (M : Nat -> Nat -> Int) (R C : Nat -> Nat) : chio (fun i j => M (fst1 R i) (fst1 C j)) = fun i j => chio M (R i) (C j) := rfl
theorem pow_ne {q : Int} (hq : q ≠ 0) (n : Nat) : q ^ n ≠ 0 := by
 induction n with
 | zero => simp
 | succ n ih => rw [Int.pow_succ]; exact Int.mul_ne_zero ih hq
theorem mul_left_pow {q x y : Int} (hq : q ≠ 0) (n : Nat) (h : q ^ n * x = q ^ n * y) : x = y :=
 Int.eq_of_mul_eq_mul_left (pow_ne hq n) h
theorem minor_next {q : Int} {b : Nat -> Nat} {M : Nat -> Nat -> Int} (h : Good q b M) (hq : q ≠ 0) (ha : M 0 0 ≠ 0) {r : Nat} {R C : Nat -> Nat} {D : Int}
   (hD : det (r + 2) (fun i j => M (fst1 R i) (fst1 C j)) = q ^ (r + 1) * D) :
   det (r + 1) (fun i j => nxt q M (R i) (C j)) = M 0 0 ^ r * D := by
 have h1 := det_scale (r + 1) q (fun i j => nxt q M (R i) (C j))
 have h2 : (fun i j => q * nxt q M (R i) (C j)) = chio (fun i j => M (fst1 R i) (fst1 C j)) := by
  funext i j
  rw [chio_fst]
  exact h.exact hq _ _
 have h3 := det_chio (r + 1) (fun i j => M (fst1 R i) (fst1 C j))
 rw [h2] at h1
 rw [h1, hD] at h3
 have h4 : M 0 0 ^ (r + 1) * (q ^ (r + 1) * D) = M 0 0 * (q ^ (r + 1) * det (r + 1) fun i j => nxt q M (R i) (C j)) := h3
 rw [Int.pow_succ (M 0 0)] at h4
 refine mul_left_pow hq (r + 1) (Int.eq_of_mul_eq_mul_left ha ?_)
 grind
theorem Good.next {q : Int} {b : Nat -> Nat} {M : Nat -> Nat -> Int} (h : Good q b M) (hq : q ≠ 0) (ha : M 0 0 ≠ 0) : Good (M 0 0) (fun r => b (r + 1)) (nxt q M) := fun r R C => by
 obtain ⟨D, h1, h2⟩ := h (r + 1) (fst1 R) (fst1 C)
 exact ⟨D, minor_next h hq ha h1, h2⟩
def Full (q : Int) (n : Nat) (M : Nat -> Nat -> Int) (D : Int) : Prop := q * det n M = q ^ n * D
theorem fst1_id : fst1 (fun i => i) = fun i => i := by funext i; cases i <;> rfl
theorem Full.next {q : Int} {b : Nat -> Nat} {M : Nat -> Nat -> Int} {n : Nat} {D : Int} (h : Good q b M) (hq : q ≠ 0) (ha : M 0 0 ≠ 0) (hf : Full q (n + 1) M D) : Full (M 0 0) n (nxt q M) D := by
 unfold Full at hf ⊢
 cases n with
 | zero =>
   rw [det_one, Int.pow_succ, Int.pow_zero, Int.one_mul] at hf
   have := Int.eq_of_mul_eq_mul_left hq hf
   show _ * 1 = _
   rw [this]; simp
 | succ n =>
   have hf' : det (n + 2) M = q ^ (n + 1) * D := by
    refine Int.eq_of_mul_eq_mul_left hq ?_
    rw [hf, Int.pow_succ q (n + 1)]; grind
   have h2 := minor_next (R := fun i => i) (C := fun i => i) h hq ha (r := n) (D := D) (by rw [fst1_id]; exact hf')
   rw [h2, Int.pow_succ]; grind
theorem Full.zero {q D : Int} {M : Nat -> Nat -> Int} (h : Full q 0 M D) : D = q := by
 unfold Full at h
 simp [det] at h
 exact h.symm
def add0 (k : Nat) (M : Nat -> Nat -> Int) : Nat -> Nat -> Int := updR M 0 fun c => M 0 c + M k c
theorem Good.start {A : Nat -> Nat -> Int} {m : Nat} (h : ∀ i j, (A i j).natAbs <= m) : Good 1 (fun r => fct (r + 1) * m ^ (r + 1)) A := fun r R C =>
 ⟨_, by rw [Int.one_pow, Int.one_mul], det_abs fun i j _ _ => h _ _⟩
theorem Full.start (n : Nat) (A : Nat -> Nat -> Int) : Full 1 n A (det n A) := by unfold Full; rw [Int.one_pow]
def mins : Nat -> Int -> (Nat -> Nat -> Int) -> List Int
 | 0, _, _ => []
 | n + 1, q, M => M 0 0 :: (if 0 < M 0 0 then mins n (M 0 0) (nxt q M) else [])
def quad (n : Nat) (M : Nat -> Nat -> Int) (x : Nat -> Int) : Int := sumN n fun i => sumN n fun j => M i j * x i * x j
def PD (n : Nat) (M : Nat -> Nat -> Int) : Prop := ∀ x : Nat -> Int, (∃ i, i < n /\ x i ≠ 0) -> 0 < quad n M x
def Symm (M : Nat -> Nat -> Int) : Prop := ∀ i j, M i j = M j i
theorem Symm.chio {M : Nat -> Nat -> Int} (h : Symm M) : Symm (chio M) := fun i j => by
 unfold Go.Proofs.YtahifcannoekhaaGreatDoor.chio; rw [h (i + 1) (j + 1), h (i + 1) 0, h 0 (j + 1)]; grind
theorem mins_len : ∀ (n : Nat) (q : Int) (M : Nat -> Nat -> Int), (mins n q M).length <= n := by
 intro n
 induction n with
 | zero => intro q M; exact Nat.le_refl _
 | succ n ih =>
   intro q M
   unfold mins
   have := ih (M 0 0) (nxt q M)
   split <;> simp <;> omega
theorem mins_all : ∀ (n : Nat) (q : Int) (M : Nat -> Nat -> Int), (∀ x ∈ mins n q M, 0 < x) ↔ n = 0 \/ ((mins n q M).length = n /\ 0 < (mins n q M).getD (n - 1) 0) := by
 intro n
 induction n with
 | zero => intro q M; simp [mins]
 | succ n ih =>
   intro q M
   have ih := ih (M 0 0) (nxt q M)
   have e : mins (n + 1) q M = M 0 0 :: (if 0 < M 0 0 then mins n (M 0 0) (nxt q M) else []) := rfl
   rw [e]
   have hl := mins_len n (M 0 0) (nxt q M)
   generalize mins n (M 0 0) (nxt q M) = L at ih hl ⊢
   by_cases ha : 0 < M 0 0
   ·rw [if_pos ha]
    cases n with
    | zero =>
      obtain rfl : L = [] := List.length_eq_zero_iff.1 (by omega)
      simp [ha]
    | succ n =>
      simp [ha] at ih ⊢
      rw [ih]
   ·rw [if_neg ha]
    simp [ha]
    intro h; subst h; simp; omega
theorem mins_congr : ∀ {n : Nat} {q : Int} {A B : Nat -> Nat -> Int}, (∀ i j, i < n -> j < n -> A i j = B i j) -> mins n q A = mins n q B := by
 intro n
 induction n with
 | zero => intro q A B _; rfl
 | succ n ih =>
   intro q A B h
   show A 0 0 :: (if 0 < A 0 0 then mins n (A 0 0) (nxt q A) else []) = B 0 0 :: (if 0 < B 0 0 then mins n (B 0 0) (nxt q B) else [])
   rw [h 0 0 (by omega) (by omega), ih (A := nxt q A) (B := nxt q B) fun i j hi hj => by unfold nxt chio; rw [h 0 0 (by omega) (by omega), h (i + 1) (j + 1) (by omega) (by omega), h (i + 1) 0 (by omega) (by omega), h 0 (j + 1) (by omega) (by omega)]]
end Go.Proofs.YtahifcannoekhaaGreatDoor
namespace Go.Proofs.YtahifcannoekhaaGreatDoor
open Go Go.RowKit
set_option maxRecDepth 100000
def Mat (s : Nat) (L : List (List Int)) (M : Nat -> Nat -> Int) : Prop := L.length = s /\ ∀ i, i < s -> (L.getD i []).length = s /\ ∀ j, j < s -> zth (L.getD i []) j = M i j
def bb (k r : Nat) : Nat := 2 ^ k * (fct (r + k + 1) * 1073741824 ^ (r + k + 1))
theorem bb_succ (k r : Nat) : bb (k + 1) r = 2 * bb k (r + 1) := by
 unfold bb
 rw [show r + (k + 1) + 1 = r + 1 + k + 1 by omega, Nat.pow_succ, Nat.mul_comm (2 ^ k) 2, Nat.mul_assoc]
theorem bp5_is : bp 5 = 18446744073709551616 * 18446744073709551616 * 18446744073709551616 * 18446744073709551616 * 18446744073709551616 := by
 rw [bp_succ 4, bp_succ 3, bp_succ 2, bp_succ 1, bp_succ 0, bp_zero, Nat.one_mul]
theorem bb_bp {k : Nat} (h : k <= 7) : bb k 0 < bp 5 := by
 rw [bp5_is]
 rcases k with _ | _ | _ | _ | _ | _ | _ | _ | k
 ·decide +kernel
 ·decide +kernel
 ·decide +kernel
 ·decide +kernel
 ·decide +kernel
 ·decide +kernel
 ·decide +kernel
 ·decide +kernel
 ·omega
def St (q : Int) (k : Nat) (M : Nat -> Nat -> Int) : Prop := Good q (bb k) M /\ q ≠ 0 /\ q.natAbs < bp 5
theorem Good.mono {q : Int} {b c : Nat -> Nat} {M : Nat -> Nat -> Int} (h : Good q b M) (hbc : ∀ r, b r <= c r) : Good q c M := fun r R C => by
 obtain ⟨D, h1, h2⟩ := h r R C
 exact ⟨D, h1, Nat.le_trans h2 (hbc r)⟩
theorem St.entry {q : Int} {k : Nat} {M : Nat -> Nat -> Int} (h : St q k M) (hk : k <= 7) (i j : Nat) : (M i j).natAbs < bp 5 := Nat.lt_of_le_of_lt (h.1.entry i j) (bb_bp hk)
theorem St.next {q : Int} {k : Nat} {M : Nat -> Nat -> Int} (h : St q k M) (hk : k <= 7) (ha : M 0 0 ≠ 0) : St (M 0 0) (k + 1) (nxt q M) :=
 ⟨(h.1.next h.2.1 ha).mono fun r => by rw [bb_succ]; omega, ha, h.entry hk 0 0⟩
def AM (n : Nat) (l : List Int) : Nat -> Nat -> Int := fun i j => if i < n /\ j < n then ent n l i j else 0
theorem AM_at {n : Nat} {l : List Int} {i j : Nat} (hi : i < n) (hj : j < n) : AM n l i j = ent n l i j := by unfold AM; rw [if_pos ⟨hi, hj⟩]
theorem AM_abs {n : Nat} {l : List Int} (hR : rt n l = true) (i j : Nat) : (AM n l i j).natAbs <= 1073741824 := by
 unfold AM
 split
 ·rename_i h
  obtain ⟨k, _, hk, he⟩ := idx_nat hR (show rng (n : Int) i j = true from decide_eq_true (by omega))
  rw [he]
  have := of_decide_eq_true ((rt_spec hR).2.2.2 k hk)
  omega
 ·simp
theorem St.start {n : Nat} {l : List Int} (hR : rt n l = true) : St 1 0 (AM n l) :=
 ⟨(Good.start (AM_abs hR)).mono fun r => by unfold bb; rw [Nat.pow_zero, Nat.one_mul, Nat.add_zero]; exact Nat.le_refl _, by decide, by have := bp_mono (show 1 <= 5 by omega); rw [bp_succ 0, bp_zero] at this; show (1 : Nat) < bp 5; omega⟩
theorem Mat.start (n : Nat) (l : List Int) : Mat n (sqE n l) (AM n l) := by
 have hl : (sqE n l).length = n := by unfold sqE; simp
 refine ⟨hl, fun i hi => ?_⟩
 have e : (sqE n l).getD i [] = rowE n l i := by
  rw [List.getD_eq_getElem?_getD]
  unfold sqE
  rw [List.getElem?_map, List.getElem?_range hi]
  rfl
 rw [e]
 refine ⟨mk_len _ _, fun j hj => ?_⟩
 unfold rowE
 rw [mk_at hj, AM_at hi hj]
theorem zth_far {l : List Int} {k : Nat} (h : l.length <= k) : zth l k = 0 := by
 unfold zth
 rw [List.getD_eq_getElem?_getD, List.getElem?_eq_none h]
 rfl
theorem Mat.few {s k : Nat} {q : Int} {L : List (List Int)} {M : Nat -> Nat -> Int} (h : Mat s L M) (hs : St q k M) (hk : k <= 7) (i : Nat) : Few (L.getD i []) := fun j => by
 have h0 : (0 : Int).natAbs < bp 5 := bp_pos 5
 by_cases hi : i < s
 ·obtain ⟨h1, h2⟩ := h.2 i hi
  by_cases hj : j < s
  ·rw [h2 j hj]; exact hs.entry hk i j
  ·rw [zth_far (by omega)]; exact h0
 ·rw [List.getD_eq_getElem?_getD, List.getElem?_eq_none (by rw [h.1]; omega)]
  show (zth [] j).natAbs < _
  rw [zth_far (Nat.zero_le _)]; exact h0
theorem Mat.next {n : Nat} {q : Int} {L : List (List Int)} {M : Nat -> Nat -> Int} (h : Mat (n + 1) L M) : Mat n ((L.drop 1).map fun R => tk (L.getD 0 []) R q n) (nxt q M) := by
 have hl : (L.drop 1).length = n := by rw [List.length_drop, h.1]; omega
 refine ⟨by rw [List.length_map, hl], fun i hi => ?_⟩
 have e : (((L.drop 1).map fun R => tk (L.getD 0 []) R q n).getD i []) = tk (L.getD 0 []) (L.getD (i + 1) []) q n := by
  rw [List.getD_eq_getElem?_getD, List.getElem?_map, List.getElem?_eq_getElem (by omega), List.getElem_drop]
  have : L.getD (i + 1) [] = L[1 + i]'(by rw [h.1]; omega) := by
   rw [List.getD_eq_getElem?_getD, Nat.add_comm, List.getElem?_eq_getElem (by rw [h.1]; omega)]
   rfl
  rw [this]
  rfl
 rw [e]
 refine ⟨mk_len _ _, fun j hj => ?_⟩
 unfold tk
 rw [mk_at hj, (h.2 0 (by omega)).2 0 (by omega), (h.2 0 (by omega)).2 (j + 1) (by omega), (h.2 (i + 1) (by omega)).2 0 (by omega), (h.2 (i + 1) (by omega)).2 (j + 1) (by omega)]
 rfl
theorem Mat.rest {n : Nat} {L : List (List Int)} {M : Nat -> Nat -> Int} (h : Mat (n + 1) L M) : ∀ i, i < (L.drop 1).length -> ((L.drop 1).getD i []).length = n + 1 := fun i hi => by
 have hl : (L.drop 1).length = n := by rw [List.length_drop, h.1]; omega
 rw [show (L.drop 1).getD i [] = L.getD (i + 1) [] from by rw [List.getD_eq_getElem?_getD, List.getD_eq_getElem?_getD, List.getElem?_drop, Nat.add_comm]]
 exact (h.2 (i + 1) (by omega)).1
def mnC (N : Int) (l : List Int) : Int := if rt N l then 0 else 23
def mnR (N : Int) (l : List Int) : List Int := if rt N l then mins N.toNat 1 (AM N.toNat l) else []
def elimB : ByteArray := ⟨#[101, 108, 105, 109]⟩
def ErrsE (w : World) (u : Value) (e : Int) : Prop := (e = 0 /\ u = .nilIface) \/ (e ≠ 0 /\ ∃ t x, u = .iface t x /\ IsEr w u (.flt elimB (.num e)))
theorem ErrsE.up {w w' : World} (hu : Up w w') {u : Value} {e : Int} (h : ErrsE w u e) : ErrsE w' u e := by
 rcases h with h | ⟨h1, t, x, h2, h3⟩
 ·exact .inl h
 ·exact .inr ⟨h1, t, x, h2, h3.up hu⟩
def tailV (g n c2 : Nat) : Value := .slice (some ⟨g, if c2 = 0 then 0 else 1, none⟩) n c2
theorem run_tail {ev : Operand -> Value} {w : World} {d : Option Tmp} {s : Tmp} {ty : TypeId} {pos : String} {af : Array Edge} {gd : Option (Nat × Bool)} {g n c2 : Nat} (hc : n <= c2) (hx : ev (.tmp s) = .slice (some ⟨g, 0, none⟩) (n + 1) (c2 + 1)) (hk : ev (.const (.int .i64 1)) = .int .i64 1) :
   (execOp ev { dst := d, op := .slice 122 (.tmp s) (some (.const (.int .i64 1))) none none, type := ty, pos := pos, after := af, guard := gd }).run Tryz.prog w = .ok (.value (tailV g n c2)) w := by
 unfold tailV
 rcases c2 with _ | c2
 ·obtain rfl : n = 0 := by omega
  go_simp
 ·go_simp
  intro h
  omega
theorem rv_tail {w : World} {g n c2 : Nat} {C : Array Value} {L : List (List Int)} (hl : L.length = n + 1) (hc : n + 1 <= c2 + 1) (hB : Blk w g 124 C) (hE : ∀ i, i < L.length -> ∃ s, C[i]? = some s /\ Wv w s (L.getD i [])) : Rv w (tailV g n c2) (L.drop 1) := by
 unfold tailV
 by_cases h0 : c2 = 0
 ·have hn : (L.drop 1) = [] := List.length_eq_zero_iff.1 (by rw [List.length_drop]; omega)
  exact .inl ⟨hn, _, _, by rw [show n = 0 by omega]⟩
 ·rw [if_neg h0]
  exact Rz.tail hl hc hB hE
theorem OwnR.mono {w : World} {b b' : Nat} {v : Value} {L : List (List Int)} (h : OwnR w b v L) (hb : b' <= b) : OwnR w b' v L := by
 obtain ⟨xs, ⟨h0, h1⟩, h2⟩ := h
 refine ⟨xs, ⟨h0, ?_⟩, fun i hi => by obtain ⟨s, h5, h6⟩ := h2 i hi; exact ⟨s, h5, h6.1, fun a n c e hn => Nat.le_trans hb (h6.2 a n c e hn)⟩⟩
 rcases h1 with h1 | ⟨g', cap, cur, hv, hbb, hr⟩
 ·exact .inl h1
 ·exact .inr ⟨g', cap, cur, hv, Nat.le_trans hb hbb, hr⟩
theorem OwnR.grown {w w' : World} {b : Nat} {row : Option Nat} {v : Value} {L : List (List Int)} (h : OwnR w b v L) (hg : w.grownBy w' row) (hr : ∀ k, row = some k -> k < b) : OwnR w' b v L := by
 have hk : ∀ {g : Nat} {t : TypeId} {C : Array Value}, Blk w g t C -> b <= g -> Blk w' g t C := fun {g t C} hB hb => by
  unfold Blk
  rw [hg.block g hB.lt (fun e => by have := hr g e.symm; omega)]
  exact hB
 obtain ⟨xs, ⟨h0, h1⟩, h2⟩ := h
 refine ⟨xs, ⟨h0, ?_⟩, fun i hi => ?_⟩
 ·rcases h1 with h1 | ⟨g', cap, cur, hv, hbb, hB, hr⟩
  ·exact .inl h1
  ·exact .inr ⟨g', cap, cur, hv, hbb, hk hB hbb, hr⟩
 ·obtain ⟨s, h5, h6, h7⟩ := h2 i hi
  refine ⟨s, h5, ?_, h7⟩
  rcases h6 with h6 | ⟨g', cap, C, hv, hc, hB, ht⟩
  ·exact .inl h6
  ·rcases Nat.eq_zero_or_pos (L.getD i []).length with h00 | h00
   ·exact .inl ⟨List.length_eq_zero_iff.1 h00, _, _, by rw [hv, h00]⟩
   ·exact .inr ⟨g', cap, C, hv, hc, hk hB (h7 _ _ _ hv h00), ht⟩
theorem OwnR.open {w : World} {b : Nat} {v : Value} {L : List (List Int)} (h : OwnR w b v L) (h0 : 0 < L.length) :
   ∃ g cap C, v = .slice (some ⟨g, 0, none⟩) L.length cap /\ b <= g /\ L.length <= cap /\ Blk w g 124 C /\ ∀ i, i < L.length -> ∃ s, C[i]? = some s /\ Wb w b s (L.getD i []) := by
 obtain ⟨xs, ⟨_, h1 | ⟨g, cap, cur, hv, hbb, hB, hc, _, _, ht⟩⟩, h2⟩ := h
 ·omega
 ·refine ⟨g, cap, cur, hv, hbb, hc, hB, fun i hi => ?_⟩
  obtain ⟨s, h3, h4⟩ := h2 i hi
  rw [<- ht, List.getElem?_take_of_lt (by omega), Array.getElem?_toList] at h3
  exact ⟨s, h3, h4⟩
theorem OwnR.tail {w : World} {b g s c2 : Nat} {L : List (List Int)} (h : OwnR w b (.slice (some ⟨g, 0, none⟩) (s + 1) (c2 + 1)) L) (hl : L.length = s + 1) : Rv w (tailV g s c2) (L.drop 1) := by
 obtain ⟨g', cap, C, hv, _, hc, hB, hE⟩ := h.open (by omega)
 injection hv with e1 e2 e3
 injection e1 with e1
 injection e1 with e1
 subst e1 e3
 exact rv_tail hl (by omega) hB fun i hi => by obtain ⟨s, h1, h2⟩ := hE i hi; exact ⟨s, h1, h2.1⟩
theorem ewrong_any (n : Int) (h0 : n ≠ 0) (w : World) :
   Calls Tryz.prog 140 #[.int .i64 n] w fun r w' => ∃ u, r = .returned u /\ Up w w' /\ ErrsE w' u n := by
 have HW := hid (fun w => wrap_any (op := { data := #[101, 108, 105, 109] }) (v := .iface 59 (.int .i64 n)) (e := .num n) (w := w) rfl)
 go_enter Tryz.func140, Tryz.ntmps140
 go_wp2_with (first | (go_at_call 55; (with_reducible refine (HW.out _).mono ?_); rintro r w1 ⟨u1, rfl, hu1, h1⟩))
 go_ret
 obtain ⟨t, u, rfl⟩ := h1.iface
 exact ⟨_, rfl, hu1, .inr ⟨h0, t, u, rfl, h1⟩⟩
theorem Blk.below {a b : World} {g B : Nat} {t : TypeId} {C : Array Value} (hB : Blk a g t C) (h : Below B a b) (hg : g < B) : Blk b g t C := by
 unfold Blk
 rw [h.block g hg]
 exact hB
theorem Blk.grown {w w' : World} {g : Nat} {row : Option Nat} {t : TypeId} {C : Array Value} (hB : Blk w g t C) (hg : w.grownBy w' row) (hr : row ≠ some g) : Blk w' g t C := by
 unfold Blk
 rw [hg.block g hB.lt (fun e => hr e.symm)]
 exact hB
theorem wpL_folded {P : Program} {ops : Array Oper} {rest : List Oper} {Q : Exit -> Act -> World -> Prop} {a : Act} {w : World} (R : World -> Prop) (h : R w) (k : ∀ w', R w' -> wpList P ops Q rest a w') : wpList P ops Q rest a w := k w h
set_option maxHeartbeats 8000000 in
theorem minors_any {v : Value} {N : Int} {l : List Int} {w : World} (hm : Sm w v N l) :
   Calls Tryz.prog 130 #[v] w fun r w' => ∃ z u, r = .returned (.tuple #[z, u]) /\ Up w w' /\ Wv w' z (mnR N l) /\ ErrsE w' u (mnC N l) := by
 have HR := hid (fun w' (hu : Up w w') => sright_any (hm.up hu))
 have HWR := hid (fun w => ewrong_any 23 (by decide) w)
 have HSm := hid hm
 obtain ⟨s, rfl, ⟨p, cap, rfl, -, -⟩, -, -, -⟩ := hm
 obtain ⟨W0, hW0⟩ : ∃ W0, w.alloc (.cells #[.int .i64 N, .slice p l.length cap] 24) = W0 := ⟨_, rfl⟩
 have hB : Blk W0 w.heap.size 24 #[.int .i64 N, .slice p l.length cap] := by rw [<- hW0]; exact Blk.new _ _ rfl
 have hU : Up w W0 := by rw [<- hW0]; exact Up.alloc _ _
 cases hR : rt N l with
 | false =>
   have e : mnC N l = 23 := by unfold mnC; rw [hR]; rfl
   have e2 : mnR N l = [] := by unfold mnR; rw [hR]; rfl
   rw [e, e2]
   rw [hR] at HR
   clear e e2 hR
   go_enter Tryz.func130, Tryz.ntmps130
   go_wp2_with (first
    | ((with_reducible apply ldM_P); exact rfl; exact rfl; exact hB; exact rfl)
    | (go_at_call 117; (with_reducible refine (HR.out _ hU).mono ?_); rintro r w1 ⟨rfl, hu1⟩)
    | (go_at_call 140; (with_reducible refine (HWR.out _).mono ?_); rintro r w2 ⟨u2, rfl, hu2, h2⟩))
   go_ret2
   exact ⟨_, _, rfl, (hU.trans hu1).trans hu2, .inl ⟨rfl, none, 0, rfl⟩, h2⟩
 | true =>
   rw [hR] at HR
   obtain ⟨n0, n8, _, _⟩ := rt_spec hR
   obtain ⟨n, rfl⟩ : ∃ n : Nat, N = (n : Int) := ⟨N.toNat, by omega⟩
   have e : mnC n l = 0 := by unfold mnC; rw [hR]; rfl
   have e2 : mnR n l = mins n 1 (AM n l) := by unfold mnR; rw [hR, if_pos rfl]; rfl
   rw [e, e2]
   have HSQ := hid (fun w' (hu : Up w w') => square_any (HSm.out.up hu) hR)
   have HSt := hid (St.start hR)
   have HMt := hid (Mat.start n l)
   have HO1 := hid (fun w => of_any 1 (by decide) (by decide) w)
   have hn8 : n <= 8 := by omega
   obtain ⟨T, hT⟩ : ∃ T, mins n 1 (AM n l) = T := ⟨_, rfl⟩
   rw [hT]
   clear e e2 hR n0 n8
   unfold wideV at *
   go_enter Tryz.func130, Tryz.ntmps130
   go_wp2_with (first
    | ((with_reducible apply ldM_P); exact rfl; exact rfl; (first | exact hB | exact hB3); exact rfl)
    | (go_at_call 117; (with_reducible refine (HR.out _ hU).mono ?_); rintro r w1 ⟨rfl, hu1⟩; replace hB := hB.up hu1; replace hU := hU.trans hu1)
    | (go_at_call 96; (with_reducible refine (HO1.out _).mono ?_); rintro r w2 ⟨rfl, hu2⟩; have hsz1 := hU.size; have hsz2 := hu2.size)
    | ((with_reducible apply st_rowP infoW); exact rfl; exact rfl; exact row_newz _ rfl
       refine wpL_folded (fun wd => Up w2 wd /\ Row wd w2.heap.size 107 16 (limb (enc 1))) ⟨gUp, gRow⟩ ?_
       rintro wL ⟨hXL, hLast⟩
       have hU2 := (hU.trans hu2).trans hXL
       have hB3 := (hB.up hu2).up hXL)
    | (go_at_call 141; (with_reducible refine (HSQ.out _ hU2).mono ?_); rintro r w3 ⟨z3, rfl, hu3, b3, hb3, hO3⟩; have hLast3 := hLast.up hu3; have hU3 := hU2.trans hu3; have hlt2 := hLast.lt))
   have hO3b := hO3.mono (show w2.heap.size + 1 <= b3 by omega)
   obtain ⟨pz, cz, rfl⟩ := hO3.slice
   obtain ⟨bL, hbL⟩ : ∃ y, w2.heap.size = y := ⟨_, rfl⟩
   rw [hbL] at hLast3 hO3b hlt2 ⊢
   have hwbL : w.heap.size <= bL := by omega
   have hInv : ∃ (k s : Nat) (q : Int) (M : Nat -> Nat -> Int) (L : List (List Int)) (done : List Int) (bR : Nat), s + k = n /\ Mat s L M /\ St q k M /\ done ++ mins s q M = T /\ OwnR w3 bR (.slice pz (sqE n l).length cz) L /\ bL < bR /\
      OwnW w3 (bL + 1) (.slice none 0 0) done /\ (∀ g, (Value.slice none 0 0).ownBlock = some g -> g < bR) /\ Row w3 bL 107 16 (limb (enc q)) /\ Up w w3 /\ done.length + s <= 8 :=
    ⟨0, n, 1, AM n l, sqE n l, [], b3, by omega, HMt.out, HSt.out, hT, hO3, by omega, OwnW.nil _ _, fun g h => by simp [Value.ownBlock] at h, hLast3, hU3, by simp; omega⟩
   clear hO3 hO3b hLast3 hlt2 hb3 hu3 hU3 hU2 hB hB3 hU hu2 hu1 hXL hLast hW0 HSt HMt hT hbL hsz1 hsz2 HSQ HO1 HR HWR
   go_loopg [4, 6] (n + 1) (fun g tm tr wr => ∃ (k s : Nat) (q : Int) (M : Nat -> Nat -> Int) (L : List (List Int)) (done : List Int) (bR : Nat), s <= g /\ s + k = n /\ Mat s L M /\ St q k M /\ done ++ mins s q M = T /\ OwnR wr bR tr L /\ bL < bR /\
      OwnW wr (bL + 1) tm done /\ (∀ g, tm.ownBlock = some g -> g < bR) /\ Row wr bL 107 16 (limb (enc q)) /\ Up w wr /\ done.length + s <= 8)
   case atStart =>
    obtain ⟨k, s, q, M, L, done, bR, h1, h2⟩ := hInv
    exact ⟨k, s, q, M, L, done, bR, by omega, h1, h2⟩
   case round =>
    clear hInv
    obtain ⟨k, s, q, M, L, done, bR, hsg, hsk, hMat, hSt, hDone, hO, hbR, hOW, hob, hRow, hu, hdl⟩ := hrel
    obtain ⟨pm, cm, rfl⟩ := hOW.slice
    obtain ⟨pr, cr, rfl⟩ := hO.slice
    rw [hMat.1]
    rcases s with _ | s
    ·have hDn : done = T := by rw [<- hDone]; simp [mins]
     subst hDn
     clear hDone
     go_wp2_with fail
     go_ret2
     exact ⟨_, _, rfl, hu, hOW.wv, .inl ⟨rfl, rfl⟩⟩
    ·obtain ⟨gR, cR, CR, hv, hgR, hcR, hBR, hE⟩ := hO.open (by rw [hMat.1]; omega)
     injection hv with x1 x2 x3
     subst x1 x3
     rw [hMat.1] at hcR
     obtain ⟨sF, hsF, hWF, hWFb⟩ := hE 0 (by rw [hMat.1]; omega)
     obtain ⟨hLF, hLFe⟩ := hMat.2 0 (by omega)
     obtain ⟨gF, cF, CF, hvF, hcF, hBF, htF⟩ := hWF.open (by rw [hLF]; omega)
     have HWv := hid (fun w' (hB : Blk w' gF 107 CF) => show Wv w' (.slice (some ⟨gF, 0, none⟩) (s + 1) cF) (L.getD 0 []) from .inr ⟨gF, cF, CF, by rw [hLF], hcF, hB, htF⟩)
     subst hvF
     have hgF : bR <= gF := hWFb _ _ _ rfl (by rw [hLF]; omega)
     rw [hLF] at hsF
     have hF00 : zth (L.getD 0 []) 0 = M 0 0 := hLFe 0 (by omega)
     have hRng : ∀ w', Blk w' gF 107 CF -> w'.rangeAt gF 0 (wc (M 0 0)) := fun w' hB => by
      have h := wv_range hB htF (i := 0) (by rw [hLF]; omega)
      rw [hF00, Nat.zero_mul] at h
      exact h
     have HRng := hid hRng
     have hcx := hBR.cell 0 hsF
     have hk7 : k <= 7 := by omega
     have HSg := hid (fun w => sign_z (few_inR (k := 5) (by omega) (hSt.entry hk7 0 0)) w)
     unfold wideV at HSg
     have hlt := hRow.lt
     have hne : (Value.slice pm done.length cm).ownBlock ≠ some gF := fun e => by have := hob _ e; omega
     have hDl : done.length < 1000000 := by omega
     have HE := hid hE
     have hmn : mins (s + 1) q M = M 0 0 :: (if 0 < M 0 0 then mins s (M 0 0) (nxt q M) else []) := rfl
     rw [hmn] at hDone
     rw [hMat.1] at hO
     obtain ⟨c2, rfl⟩ : ∃ c2, cr = c2 + 1 := ⟨cr - 1, by omega⟩
     clear hmn hRng hF00 htF hLFe hWF hWFb hE x2 hcF
     have HMat := hid hMat
     have HSt := hid hSt
     have HDone := hid hDone
     have hL00 := hLF
     have HOb := hid hob
     have HO := hid hO
     clear hMat hSt hDone hob hO hsF hLF
     obtain ⟨m0, hm0⟩ : ∃ y, M 0 0 = y := ⟨_, rfl⟩
     have HM0 := hid hm0
     rw [hm0] at HRng HSg
     clear hm0
     by_cases hp : 0 < m0
     ·have ds : decide (sgn m0 <= 0) = false := by unfold sgn; rw [decide_eq_false]; split <;> (try split) <;> omega
      go_wp2_with (first
       | ((with_reducible apply ldW_P); exact rfl; exact rfl; (first | exact HRng.out _ hBF | exact HRng.out _ hBF6))
       | ((with_reducible apply bsW_P); exact rfl)
       | ((with_reducible apply appW (l := done) (m := [m0])); exact rfl; exact rfl; exact OwnW.up (Up.alloc _ _) hOW; exact one_range rfl; (focus (simp; omega)); exact hDl; (focus (simp; done)); rintro v6 w6 hO6 hg6 hb6
          obtain ⟨p6, c6, rfl⟩ := hO6.slice
          have hBF6 := (hBF.up (Up.alloc _ _)).grown hg6 hne
          have hOR6 := (HO.out.up (Up.alloc _ _)).grown hg6 HOb.out
          have hRow6 : Row w6 bL 107 16 (limb (enc q)) := Blk.below (hRow.up (Up.alloc _ _)) hb6 (Nat.lt_succ_self _)
          have hu6 : Up w w6 := Below.trans (hu.trans (Up.alloc _ _)) (Below.mono hb6 (by omega)))
       | (go_at_call 70; (with_reducible refine (HSg.out _).mono ?_); rintro r w7 ⟨rfl, hu7⟩))
      have hF7 := hBF6.up hu7
      have hRow7 := hRow6.up hu7
      have hOR7 := hOR6.up hu7
      have hO7 := hO6.up hu7
      have hU7 := hu6.trans hu7
      obtain ⟨NX, hNX⟩ : ∃ y, ((L.drop 1).map fun R => tk (L.getD 0 []) R q s) = y := ⟨_, rfl⟩
      have HNX := hid hNX
      have HFW : Hid (∀ w', Up w7 w' -> Calls Tryz.prog 142 #[.slice (some ⟨gF, 0, none⟩) (s + 1) cF, tailV gR s c2, .agg (cells 16 (limb (enc q)))] w' (fun e w'' => Up w' w'' /\ ∃ v, e = .returned v /\ (fun v w'' => ∃ b, w7.heap.size <= b /\ OwnR w'' b v NX) v w'')) := hid (fun w' hu' => by
       have hf := fewer_any (q := q) (n := s) (HWv.out w' (hF7.up hu')) ((hOR7.up hu').tail HMat.out.1) hL00 HMat.out.rest (by omega) (by rw [List.length_drop, HMat.out.1]; omega) (HMat.out.few HSt.out hk7 0) (fun i => by rw [show (L.drop 1).getD i [] = L.getD (i + 1) [] from by rw [List.getD_eq_getElem?_getD, List.getD_eq_getElem?_getD, List.getElem?_drop, Nat.add_comm]]; exact HMat.out.few HSt.out hk7 (i + 1)) HSt.out.2.2 HSt.out.2.1
       unfold wideV at hf
       rw [hNX] at hf
       refine hf.mono fun _ _ h => ?_
       obtain ⟨z, rfl, hu, b, hb, hO⟩ := h
       exact ⟨hu, z, rfl, b, Nat.le_trans hu'.size hb, hO⟩)
      clear hNX
      go_wp2_with fail
      refine opU (S := (fun wq => Up w7 wq /\ Below w.heap.size w wq)) (req := (fun j => j != 9)) (fun _ _ h hu => ⟨(h.1).trans hu, below_up (h.2) hu⟩) ⟨(by first | exact Up.refl _ | assumption), gUp⟩ (fun wS hSS hSu => ?_)
      have ⟨hS1, hSB⟩ := hSS
      refine tkP 0 (some 32) hSu ?_
      refine tkP 1 (some 33) hSu ?_
      refine tkO 2 (some 34) rfl hSu ?_ (hy := fun w' => run_tail (by omega) rfl rfl)
      refine tkT 3 (some 35) rfl hSu hSS ?_ (hy := fun w' hSw => run_ld undW infoW _ rfl _ rfl (hRow7.up hSw.1))
      refine tkP 5 (some 37) hSu ?_
      refine tkP 6 (some 38) hSu ?_
      refine tkT 7 (some 39) rfl hSu hSS ?_ (hy := fun w' hSw => run_ldW rfl rfl (HRng.out _ (hF7.up hSw.1)))
      refine wpAnyU_callE (i := 4) (d := (some 36)) rfl rfl (by kernel_rfl) (by rfl) hSu.out (fun w' => by go_simp) (fun w' hw' => (HFW.out w' (hS1.trans hw'))) fun vG wG hwG hRG => ?_
      try simp only [Act.put, pu1, pu2, pu3]
      obtain ⟨bN, hbN, hON⟩ := hRG
      obtain ⟨pN, cN, rfl⟩ := hON.slice
      refine tkP 8 (some 6) hSu ?_
      refine wpAnyU_one (i := 9) rfl (by kernel_rfl) (by rfl) fun wX hwX => ?_
      refine wp_st_rowN infoW rfl _ _ rfl _ rfl rfl ((hRow7.up ((hS1.trans hwG).trans hwX))) ?_
      refine ⟨fun h => by simp at h, ?_⟩
      try simp only [Act.put, pu1, pu2, pu3]
      refine wpAnyU_done (by kernel_rfl) (fun wF huE => ?_) _
      have hUG := (hS1.trans hwG).trans hwX
      have hltb := hRow7.lt
      have gRow := ((hRow7.up hUG).setRow (limb (enc m0))).up huE
      have gO := ((hON.up hwX).below (show bL < bN by omega) (cells 16 (limb (enc m0)))).up huE
      have gW := ((hO7.up hUG).below (Nat.lt_succ_self bL) (cells 16 (limb (enc m0)))).up huE
      have gU := Up.trans (below_setRow (hU7.trans hUG) hwbL (cells 16 (limb (enc m0)))) huE
      have gOb : ∀ g, (Value.slice p6 (done ++ [m0]).length c6).ownBlock = some g -> g < bN := fun g h => by have := (World.ownsRow.lt hO7 g h).2; omega
      have gT : (done ++ [m0]) ++ mins s m0 (nxt q M) = T := by
       have h := HDone.out
       rw [HM0.out, if_pos hp] at h
       rw [List.append_assoc]
       exact h
      have gM : Mat s NX (nxt q M) := HNX.out ▸ HMat.out.next
      have gS : St m0 (k + 1) (nxt q M) := by
       have h := HSt.out.next hk7 (by rw [HM0.out]; omega)
       rw [HM0.out] at h
       exact h
      have gL : (done ++ [m0]).length = done.length + 1 := by rw [List.length_append, List.length_singleton]
      rw [gL] at gW gOb
      clear hS1 hSB hSS hwG hwX huE hON hUG
      go_wp2_with fail
      go_roundg s
      case measure => omega
      case rel => exact ⟨k + 1, s, m0, nxt q M, NX, done ++ [m0], bN, Nat.le_refl _, by omega, gM, gS, gT, gO, by omega, gW, gOb, gRow, gU, by rw [gL]; omega⟩
     ·have ds : decide (sgn m0 <= 0) = true := by unfold sgn; rw [decide_eq_true]; split <;> (try split) <;> omega
      go_wp2_with (first
       | ((with_reducible apply ldW_P); exact rfl; exact rfl; (first | exact HRng.out _ hBF | exact HRng.out _ hBF6))
       | ((with_reducible apply bsW_P); exact rfl)
       | ((with_reducible apply appW (l := done) (m := [m0])); exact rfl; exact rfl; exact OwnW.up (Up.alloc _ _) hOW; exact one_range rfl; (focus (simp; omega)); exact hDl; (focus (simp; done)); rintro v6 w6 hO6 hg6 hb6
          obtain ⟨p6, c6, rfl⟩ := hO6.slice
          have hBF6 := (hBF.up (Up.alloc _ _)).grown hg6 hne
          have hu6 : Up w w6 := Below.trans (hu.trans (Up.alloc _ _)) (Below.mono hb6 (by omega)))
       | (go_at_call 70; (with_reducible refine (HSg.out _).mono ?_); rintro r w7 ⟨rfl, hu7⟩))
      go_ret2
      have hT : done ++ [m0] = T := by
       have h := HDone.out
       rw [HM0.out, if_neg (by omega)] at h
       exact h
      have hW := (hO6.up hu7).wv
      rw [List.length_append, List.length_singleton, hT] at hW
      exact ⟨_, _, rfl, hu6.trans hu7, hW, .inl ⟨rfl, rfl⟩⟩
def Lead (s : Nat) (M : Nat -> Nat -> Int) (F : List Int) (M' : Nat -> Nat -> Int) : Prop :=
 F.length = s + 1 /\ (∀ j, j < s + 1 -> zth F j = M' 0 j) /\ M' 0 0 ≠ 0 /\ (M' = M \/ ∃ i, i ≠ 0 /\ i < s + 1 /\ M' = add0 i M)
theorem ErrsE.setRow {w : World} {g : Nat} {C D : Array Value} {u : Value} {e : Int} (h : ErrsE w u e) (hB : Blk w g 107 C) : ErrsE (w.setRow g D) u e := by
 rcases h with h | ⟨h1, t, x, rfl, h2⟩
 ·exact .inl h
 ·refine .inr ⟨h1, t, x, rfl, ?_⟩
  obtain ⟨b, v, e1, e2, e3⟩ := h2
  refine ⟨b, v, e1, e2.row_other _ ?_, e3⟩
  rintro rfl
  unfold Blk at e2 hB
  rw [hB] at e2
  simp at e2
def detC (N : Int) (l : List Int) : Int := if rt N l then 0 else 23
def detV (N : Int) (l : List Int) : Int := if rt N l then det N.toNat (AM N.toNat l) else 0
def dfV (N : Int) (l : List Int) : Bool := (mnR N l).all (fun x => decide (0 < x)) && rt N l
theorem mnR_few {N : Int} {l : List Int} : ∀ i, i < (mnR N l).length -> (zth (mnR N l) i).natAbs < bp 5 := by
 unfold mnR
 cases hR : rt N l with
 | false => intro i hi; exact absurd hi (Nat.not_lt_zero _)
 | true =>
   obtain ⟨n0, n8, _, _⟩ := rt_spec hR
   obtain ⟨n, rfl⟩ : ∃ n : Nat, N = (n : Int) := ⟨N.toNat, by omega⟩
   rw [if_pos rfl]
   have key : ∀ s k q M, s + k <= 8 -> St q k M -> ∀ i, i < (mins s q M).length -> (zth (mins s q M) i).natAbs < bp 5 := by
    intro s
    induction s with
    | zero => intro k q M _ _ i hi; exact absurd hi (Nat.not_lt_zero _)
    | succ s ih =>
      intro k q M hk hs i hi
      have e : mins (s + 1) q M = M 0 0 :: (if 0 < M 0 0 then mins s (M 0 0) (nxt q M) else []) := rfl
      rw [e] at hi ⊢
      rcases i with _ | i
      ·exact hs.entry (by omega) 0 0
      ·by_cases hp : 0 < M 0 0
       ·rw [if_pos hp] at hi ⊢
        exact ih (k + 1) _ _ (by omega) (hs.next (by omega) (by omega)) i (by simpa using hi)
       ·rw [if_neg hp] at hi; simp at hi
   exact key n 0 1 _ (by omega) (by rw [show ((n : Int)).toNat = n by omega]; exact St.start hR)
theorem mnR_len {N : Int} {l : List Int} : (mnR N l).length <= 8 := by
 unfold mnR
 cases hR : rt N l with
 | false => simp
 | true =>
   obtain ⟨n0, n8, _, _⟩ := rt_spec hR
   rw [if_pos rfl]
   have := mins_len N.toNat 1 (AM N.toNat l)
   omega
set_option maxHeartbeats 8000000 in
theorem definite_any {v : Value} {N : Int} {l : List Int} {w : World} (hm : Sm w v N l) :
   Calls Tryz.prog 106 #[v] w fun r w' => r = .returned (.bool (dfV N l)) /\ Up w w' := by
 have HMI := hid (fun w' (hu : Up w w') => minors_any (hm.up hu))
 obtain ⟨s, rfl, ⟨p, cap, rfl, -, -⟩, -, -, -⟩ := hm
 obtain ⟨W0, hW0⟩ : ∃ W0, w.alloc (.cells #[.int .i64 N, .slice p l.length cap] 24) = W0 := ⟨_, rfl⟩
 have hB : Blk W0 w.heap.size 24 #[.int .i64 N, .slice p l.length cap] := by rw [<- hW0]; exact Blk.new _ _ rfl
 have hU : Up w W0 := by rw [<- hW0]; exact Up.alloc _ _
 have HF := hid (mnR_few (N := N) (l := l))
 have HLn := hid (mnR_len (N := N) (l := l))
 obtain ⟨T, hT⟩ : ∃ T, mnR N l = T := ⟨_, rfl⟩
 obtain ⟨C, hC⟩ : ∃ C, mnC N l = C := ⟨_, rfl⟩
 obtain ⟨o, ho⟩ : ∃ o, dfV N l = o := ⟨_, rfl⟩
 have HOo : Hid (o = (T.all (fun x => decide (0 < x)) && decide (C = 0))) := hid (by
  rw [<- ho, <- hT, <- hC]
  unfold dfV mnC
  cases rt N l <;> simp)
 rw [hT] at HMI HF HLn
 rw [hC] at HMI
 rw [ho]
 clear hT hC ho
 go_enter Tryz.func106, Tryz.ntmps106
 go_wp2_with (first
  | ((with_reducible apply ldM_P); exact rfl; exact rfl; exact hB; exact rfl)
  | (go_at_call 130; (with_reducible refine (HMI.out _ hU).mono ?_); rintro r w1 ⟨z1, u1, rfl, hu1, hW1, he1⟩; obtain ⟨p1, c1, rfl⟩ := hW1.slice))
 have hU1 := hU.trans hu1
 clear hW0 hu1 hB hU HMI
 go_loopg [14] (T.length + 1) (fun g ti wr => ∃ i : Nat, i <= T.length /\ T.length - i <= g /\ ti = .int .i64 (i : Nat) /\ (∀ j, j < i -> 0 < zth T j) /\ Up w1 wr)
 case atStart => exact ⟨0, Nat.zero_le _, by omega, rfl, fun j hj => absurd hj (Nat.not_lt_zero _), Up.refl _⟩
 case round =>
  obtain ⟨i, hi, hig, rfl, hpos, hu⟩ := hrel
  have HPo := hid hpos
  clear hpos
  by_cases hlt : i < T.length
  ·obtain ⟨g1, c9, C1, hv, hc9, hB1, ht1⟩ := hW1.open (by omega)
   injection hv with x1 x2 x3
   subst x1 x3
   have HR1 := hid (fun w' (hB : Blk w' g1 107 C1) => wv_range hB ht1 hlt)
   have HSg := hid (fun w => sign_z (few_inR (k := 5) (by omega) (HF.out i hlt)) w)
   have hBr := hB1.up hu
   have e1 : IntKind.i64.wrap ((i : Int) + 1) = (i : Int) + 1 := IntWalk.i64_in _ (by have := HLn.out; omega)
   unfold wideV at HSg
   clear ht1 x2 hc9
   obtain ⟨z, hz⟩ : ∃ z, zth T i = z := ⟨_, rfl⟩
   rw [hz] at HR1 HSg
   have HZ := hid hz
   clear hz
   by_cases hp : 0 < z
   ·have ds : decide (sgn z <= 0) = false := by unfold sgn; rw [decide_eq_false]; split <;> (try split) <;> omega
    have HP := hid hp
    clear hp
    go_wp2_with (first
     | ((with_reducible apply ldW_P); exact rfl; exact rfl; exact HR1.out _ hBr)
     | ((with_reducible apply ld_rowP undW infoW); exact rfl; exact rfl; exact gRow)
     | ((with_reducible apply st_rowP infoW); exact rfl; exact rfl; exact row_newz _ rfl
        refine wpL_folded (fun wd => Up wr wd /\ Row wd wr.heap.size 107 16 (limb (enc z))) ⟨gUp, gRow⟩ ?_
        rintro wL ⟨hXL, hRL⟩)
     | (go_at_call 70; (with_reducible refine (HSg.out _).mono ?_); rintro r w3 ⟨rfl, hu3⟩))
    go_roundg (T.length - (i + 1))
    case measure => omega
    case rel => exact ⟨i + 1, hlt, Nat.le_refl _, rfl, fun j hj => by
     rcases Nat.lt_succ_iff_lt_or_eq.1 hj with h | h
     ·exact HPo.out j h
     ·rw [h, HZ.out]; exact HP.out, hu.trans (hXL.trans hu3)⟩
   ·have ds : decide (sgn z <= 0) = true := by unfold sgn; rw [decide_eq_true]; split <;> (try split) <;> omega
    have HP := hid hp
    clear hp
    go_wp2_with (first
     | ((with_reducible apply ldW_P); exact rfl; exact rfl; exact HR1.out _ hBr)
     | ((with_reducible apply ld_rowP undW infoW); exact rfl; exact rfl; exact gRow)
     | ((with_reducible apply st_rowP infoW); exact rfl; exact rfl; exact row_newz _ rfl
        refine wpL_folded (fun wd => Up wr wd /\ Row wd wr.heap.size 107 16 (limb (enc z))) ⟨gUp, gRow⟩ ?_
        rintro wL ⟨hXL, hRL⟩)
     | (go_at_call 70; (with_reducible refine (HSg.out _).mono ?_); rintro r w3 ⟨rfl, hu3⟩))
    go_ret
    have ho : o = false := by
     rw [HOo.out, Bool.and_eq_false_iff]
     refine .inl (List.all_eq_false.2 ⟨z, ?_, by have := HP.out; simpa using this⟩)
     rw [<- HZ.out, zth_get hlt]
     exact List.getElem_mem _
    exact ⟨by rw [ho]; rfl, hU1.trans (hu.trans (hXL.trans hu3))⟩
  ·obtain rfl : i = T.length := by omega
   have hall : T.all (fun x => decide (0 < x)) = true := List.all_eq_true.2 fun x hx => by
    obtain ⟨j, hj, rfl⟩ := List.mem_iff_getElem.1 hx
    have := HPo.out j hj
    rw [zth_get hj] at this
    exact decide_eq_true this
   have hoo := HOo.out
   rw [hall, Bool.true_and] at hoo
   have HOO := hid hoo
   clear hoo hall
   rcases he1 with ⟨h0, rfl⟩ | ⟨h0, t, x, rfl, -⟩
   ·have HO2 : Hid (o = true) := hid (by rw [HOO.out]; exact decide_eq_true h0)
    clear h0
    go_wp2_with fail
    go_ret
    exact ⟨by rw [HO2.out]; rfl, hU1.trans hu⟩
   ·have HO2 : Hid (o = false) := hid (by rw [HOO.out]; exact decide_eq_false h0)
    clear h0
    go_wp2_with fail
    go_ret
    exact ⟨by rw [HO2.out]; rfl, hU1.trans hu⟩
def RInv (w : World) (base bx rs : Nat) (n : Int) (sA : Value) (new old : List Int) (p : Nat) (wr : World) : Prop :=
 OwnI wr base sA (mixed new old p) /\ (∀ q, q < p -> fit (zth new q) = true) /\ Blk wr bx 24 #[.int .i64 n, sA] /\ Blk wr rs 24 #[.int .i64 0, .slice none 0 0] /\ Up w wr
theorem In64.mixed {new old : List Int} (hl : new.length = old.length) (h : In64 old) {p : Nat} (hf : ∀ q, q < p -> fit (zth new q) = true) : In64 (mixed new old p) := by
 intro i hi
 rw [mixed_len hl] at hi
 rw [mixed_get hl _ hi]
 split
 ·rename_i h1; exact fit_i64 (hf i h1)
 ·exact h i hi
theorem OwnI.sm {w : World} {base : Nat} {s : Value} {l : List Int} {N : Int} (h : OwnI w base s l) (hN : I64 N) (hl : In64 l) (hn : l.length <= 1000) : Sm w (.agg #[.int .i64 N, s]) N l := ⟨s, rfl, h.vw, hN, hl, hn⟩
set_option maxHeartbeats 8000000 in
theorem rdiag_any {v : Value} {N : Int} {l : List Int} (x : Int) {w : World} (hm : Sm w v N l) (hx : I64 x) :
   Calls Tryz.prog 15 #[v, .int .i64 x] w (RSymPost w (diN N l x) (diR N l x) (diC N l x)) := by
 have HR := hid (fun w' (hu : Up w w') => rright_any (hm.up hu))
 have HCP := hid (fun w' (hu : Up w w') => copy_any (hm.up hu))
 obtain ⟨s, rfl, hV, hN, hl, hlen⟩ := hm
 obtain ⟨p, cap, rfl, hcap, hc⟩ := hV
 obtain ⟨W0, hW0⟩ : ∃ W0, (w.alloc (.cells #[.int .i64 N, .slice p l.length cap] 24)).alloc (.cells #[.int .i64 0, .slice none 0 0] 24) = W0 := ⟨_, rfl⟩
 have hB : Blk W0 w.heap.size 24 #[.int .i64 N, .slice p l.length cap] := by rw [<- hW0]; exact (Blk.new _ _ rfl).old _
 have hQ : Blk W0 (w.heap.size + 1) 24 #[.int .i64 0, .slice none 0 0] := by rw [<- hW0]; exact Blk.new _ _ (by simp)
 have hU : Up w W0 := by rw [<- hW0]; exact (Up.alloc _ _).trans (Up.alloc _ _)
 cases hR : rt N l with
 | false =>
   have e : diC N l x = 23 := by unfold diC; rw [hR]; rfl
   have e2 : diR N l x = [] := by unfold diR; rw [e]; rfl
   have e3 : diN N l x = 0 := by unfold diN; rw [e]; rfl
   rw [e, e2, e3]
   rw [hR] at HR
   clear e e2 e3 hR hc hl hN
   go_enter Tryz.func15, Tryz.ntmps15
   go_wp2_with (first
    | ((with_reducible apply ldM_P); exact rfl; exact rfl; exact hB; exact rfl)
    | (go_at_call 33; (with_reducible refine (HR.out _ hU).mono ?_); rintro r w1 ⟨rfl, hu1⟩; replace hQ := hQ.up hu1)
    | ((with_reducible apply stM_P); exact rfl; exact rfl; exact hQ; exact rfl; exact rfl; exact two2 _ _ _ _ _))
   exact bodyPost_ret (resMs (u := .int .i64 23) rfl rfl rfl (hQ.setRow _) rfl) rfl (RSymPost.err 23 (hU.trans hu1) (by omega))
 | true =>
   rw [hR] at HR
   obtain ⟨n0, n8, htri, _⟩ := rt_spec hR
   obtain ⟨n, rfl⟩ : ∃ n : Nat, N = (n : Int) := ⟨N.toNat, by omega⟩
   rw [tri_nat] at htri
   have n8' : n <= 8 := by omega
   have hln : l.length = triN n := by omega
   have eN : ((n : Int)).toNat = n := by omega
   obtain ⟨L', hL'⟩ : ∃ L', diL n l x = L' := ⟨_, rfl⟩
   have HlL : Hid (L'.length = l.length) := hid (by rw [<- hL', diL_len])
   have Hat : Hid (∀ i, i < n -> zth L' (pos n i i) = zth l (pos n i i) + x) := hid (fun i hi => by rw [<- hL', diL_at x n8' hln (Nat.le_refl _) hi, if_pos rfl])
   have Hrow : Hid (∀ i q, i < n -> pos n i i + 1 <= q -> q < pos n (i + 1) (i + 1) -> zth L' q = zth l q) := hid (fun i q hi h1 h2 => by rw [<- hL']; exact diL_row x n8' hln hi h1 h2)
   have Hfl := hid (rt_spec hR).2.2.2
   obtain ⟨hc9, hd9⟩ : (∀ k, k < L'.length -> fit (zth L' k) = false -> RSymPost w (diN n l x) (diR n l x) (diC n l x) = RSymPost w 0 [] 21) /\
      ((∀ k, k < L'.length -> fit (zth L' k) = true) -> RSymPost w (diN n l x) (diR n l x) (diC n l x) = RSymPost w n L' 0) := by
    refine ⟨fun k hk hf => ?_, fun hf => ?_⟩
    ·have e : diC n l x = 21 := by unfold diC; rw [hR, eN, hL', all_no hk hf]; rfl
     unfold diN diR; rw [e]; rfl
    ·have e : diC n l x = 0 := by unfold diC; rw [hR, eN, hL', all_yes hf]; rfl
     unfold diN diR; rw [e, if_pos rfl, if_pos rfl, eN, hL']
   have Hbad := hid hc9
   have Hgood := hid hd9
   obtain ⟨PP, hPP⟩ : ∃ PP, RSymPost w (diN n l x) (diR n l x) (diC n l x) = PP := ⟨_, rfl⟩
   rw [hPP] at Hbad Hgood ⊢
   have HN64 := hid hN
   have HLn := hid hln
   have Hl64 := hid hl
   have hx64 := hid hx
   have HOx := hid (fun w => of_big x hx.1 hx.2 w)
   clear hPP hc9 hd9 hL' hc hl hx hR htri hln hN eN hcap n0 n8
   go_enter Tryz.func15, Tryz.ntmps15
   go_wp2_with (first
    | ((with_reducible apply ldM_P); exact rfl; exact rfl; exact hB; exact rfl)
    | (go_at_call 33; (with_reducible refine (HR.out _ hU).mono ?_); rintro r w1 ⟨rfl, hu1⟩; replace hQ := hQ.up hu1; replace hB := hB.up hu1; replace hU := hU.trans hu1)
    | (go_at_call 34; (with_reducible refine (HCP.out _ hU).mono ?_); rintro r w2 ⟨sA, rfl, hu2, hO⟩; have hlt := hB.lt; have hlt2 := hQ.lt; replace hQ := hQ.up hu2; replace hB := hB.up hu2; replace hU := hU.trans hu2; obtain ⟨pA, nA, cA, rfl⟩ := OwnI.slice hO; have hO2 := OwnI.setRow (D := #[.int .i64 (n : Int), .slice pA nA cA]) hO hB; have hB2 := hB.setRow #[.int .i64 (n : Int), .slice pA nA cA]; have hQ2 := Blk.row_other hQ #[.int .i64 (n : Int), .slice pA nA cA] (show w.heap.size + 1 ≠ w.heap.size by omega); have hU2 := below_setRow hU (Nat.le_refl _) #[.int .i64 (n : Int), .slice pA nA cA])
    | ((with_reducible apply stM_P); exact rfl; exact rfl; exact hB; exact rfl; exact rfl; exact two2 _ _ _ _ _))
   obtain ⟨base, hbase⟩ : ∃ b, w1.heap.size = b := ⟨_, rfl⟩
   have hbs : w.heap.size + 1 < base := by omega
   rw [hbase] at hO2
   clear hbase hlt hlt2 hu1 hu2 hO hB hQ hU
   go_loopg [6] n (fun g ti wr => ∃ i : Nat, i <= n /\ n - i <= g /\ ti = .int .i64 (i : Nat) /\ RInv w base w.heap.size (w.heap.size + 1) n (.slice pA nA cA) L' l (pos n i i) wr)
   case atStart => exact ⟨0, Nat.zero_le _, by omega, rfl, by rw [pos_zero, mixed_zero]; exact hO2, fun q hq => by rw [pos_zero] at hq; omega, hB2, hQ2, hU2⟩
   case round =>
    clear hB2 hQ2 hU2 hO2
    obtain ⟨i, hi, hig, rfl, hO, hfits, hB, hQ, hU⟩ := hrel
    have hc0 := hB.cell 0 rfl
    by_cases hlt : i < n
    ·have e1 : IntKind.i64.wrap ((i : Int) + 1) = (i : Int) + 1 := IntWalk.i64_in _ (by omega)
     have hkl : pos n i i < l.length := by rw [HLn.out]; exact pos_lt (Nat.le_refl _) hlt
     have hM64 := In64.mixed HlL.out Hl64.out hfits
     have HSm := hid (hO.sm HN64.out hM64 (by rw [mixed_len HlL.out]; exact hlen))
     have HAt := hid (fun w' (hu : Up wr w') => rat_ent2 (HSm.out.up hu) n8' (by rw [mixed_len HlL.out]; exact HLn.out) (Nat.le_refl i) hlt)
     have hat := Hat.out i hlt
     have HX := hid (fun w => (pos_idx (Nat.le_refl i) hlt) ▸ rat_any (n : Int) (i : Int) (i : Int) (by omega) (by omega) (by omega) (by omega) (by omega) w)
     have Hro := hid (fun q => Hrow.out i q hlt)
     have HP := hid (pos_row hlt)
     have HFit := hid hfits
     have HPS : Hid (pos n i i + 1 <= pos n (i + 1) (i + 1) /\ pos n (i + 1) (i + 1) <= l.length) := hid (by rw [HLn.out]; have := pos_row hlt; unfold pos at *; omega)
     obtain ⟨k, hk⟩ : ∃ k, pos n i i = k := ⟨_, rfl⟩
     have HK := hid hk
     rw [hk] at hkl HAt hat hO HX Hro HFit HPS
     obtain ⟨g, cp, C, hv, hbg, -⟩ := hO.open (by rw [mixed_len HlL.out]; omega)
     injection hv with x1 x2 x3
     rw [mixed_len HlL.out] at x2
     subst x1 x2 x3
     have hmx : zth (mixed L' l k) k = zth l k := mixed_at HlL.out hkl
     rw [hmx] at HAt
     have hak := Hl64.out k hkl
     have HOk := hid (fun w => of_big (zth l k) hak.1 hak.2 w)
     have n1 := nl_bp (by omega) (i64_bp hak)
     have n2 := nl_bp (by omega) (i64_bp hx64.out)
     have n3 : nl (zth l k + x).natAbs < 50000 := nl_bp (k := 2) (by omega) (by
      have b1 := i64_bp hak
      have b2 := i64_bp hx64.out
      have b3 : bp 2 = bp 1 * 18446744073709551616 := bp_succ 1
      have b4 := bp_pos 1
      omega)
     rw [<- hat] at n3
     have HS9 := hid (mixed_set HlL.out hkl)
     have HML := hid (mixed_len HlL.out k)
     have HAD := hid (fun (va vb : Value) (w : World) (ha : Big w va (zth l k)) (hb : Big w vb x) => hat ▸ add_big ha hb n1 n2)
     clear hat n1 n2 hak hk hM64 hfits
     obtain ⟨z9, hz9'⟩ : ∃ z, zth L' k = z := ⟨_, rfl⟩
     have HZ9 := hid hz9'
     rw [hz9'] at HS9 n3 HAD
     clear hz9' hmx
     generalize zth l k = ak at *
     obtain ⟨M, hM9⟩ : ∃ M, mixed L' l k = M := ⟨_, rfl⟩
     rw [hM9] at hO HS9 HML
     clear hM9 HSm
     have hkM : k < M.length := by rw [HML.out]; exact hkl
     have HN3 := hid n3
     clear n3
     cases hf : fit z9 with
     | false =>
       have HF9 := hid (fun (va : Value) (w : World) (hb : Big w va z9) => hf ▸ rfits_any hb HN3.out)
       have Hf := hid hf
       clear hf
       go_wp2_with (first
        | ((with_reducible apply ldM_P); exact rfl; exact rfl; exact hB; exact rfl)
        | ((with_reducible apply stB_P); exact rfl; exact rfl; exact gBlk; exact rfl; exact rfl; exact one2 _ _ _ _)
        | ((with_reducible apply ldB_P); exact rfl; exact rfl; exact gBlk; exact rfl)
        | (go_at_call 36; (with_reducible refine (HAt.out _ (Up.refl _)).mono ?_); rintro r w3 ⟨rfl, hu3⟩)
        | (go_at_call 25; first
           | ((with_reducible refine (HOk.out _).mono ?_); rintro r w4 ⟨hu4, u4, rfl, hb4⟩)
           | ((with_reducible refine (HOx.out _).mono ?_); rintro r w5 ⟨hu5, u5, rfl, hb5⟩))
        | (go_at_call 35; (with_reducible refine (HAD.out _ _ _ (hb4.up hu5) hb5).mono ?_); rintro r w6 ⟨hu6, u6, rfl, hb6⟩; obtain ⟨bb, ba, bn, bc, rfl⟩ := hb6.shape; have hu36 := ((hu3.trans hu4).trans hu5).trans hu6; have hBg := (Blk.new (w := w6) (b := w6.heap.size) 66 #[.bool false, .slice none 0 0] rfl).setRow #[.bool bb, .slice ba bn bc]; have hbg6 : Big _ _ z9 := big_set (D := #[.bool bb, .slice ba bn bc]) (Blk.new (w := w6) (b := w6.heap.size) 66 #[.bool false, .slice none 0 0] rfl) (big_alloc hb6); have hu6X := hu36.trans (below_setRow (Up.alloc w6 (.cells #[.bool false, .slice none 0 0] 66)) (Nat.le_refl _) #[.bool bb, .slice ba bn bc]))
        | (go_at_call 32; (with_reducible refine (HF9.out _ _ hbg6).mono ?_); rintro r w7 ⟨rfl, hu7⟩; replace hQ := (hQ.up hu6X).up hu7)
        | ((with_reducible apply stM_P); exact rfl; exact rfl; exact hQ; exact rfl; exact rfl; exact two2 _ _ _ _ _))
       rw [Hbad.out k (by rw [HlL.out]; exact hkl) (by rw [HZ9.out]; exact Hf.out)]
       exact bodyPost_ret (resMs (u := .int .i64 21) rfl rfl rfl (hQ.setRow _) rfl) rfl (RSymPost.err 21 ((hU.trans hu6X).trans hu7) (by omega))
     | true =>
       have HF9 := hid (fun (va : Value) (w : World) (hb : Big w va z9) => hf ▸ rfits_any hb HN3.out)
       have Hf := hid hf
       have HIn := hid (fun (va : Value) (w : World) (hb : Big w va z9) => (i64V_yes (fit_i64 hf)) ▸ int64_big hb HN3.out)
       clear hf
       go_wp2_with (first
        | ((with_reducible apply ldM_P); exact rfl; exact rfl; exact hB; exact rfl)
        | ((with_reducible apply stB_P); exact rfl; exact rfl; exact gBlk; exact rfl; exact rfl; exact one2 _ _ _ _)
        | ((with_reducible apply ldB_P); exact rfl; exact rfl; exact gBlk; exact rfl)
        | (go_at_call 36; (with_reducible refine (HAt.out _ (Up.refl _)).mono ?_); rintro r w3 ⟨rfl, hu3⟩)
        | (go_at_call 25; first
           | ((with_reducible refine (HOk.out _).mono ?_); rintro r w4 ⟨hu4, u4, rfl, hb4⟩)
           | ((with_reducible refine (HOx.out _).mono ?_); rintro r w5 ⟨hu5, u5, rfl, hb5⟩))
        | (go_at_call 35; (with_reducible refine (HAD.out _ _ _ (hb4.up hu5) hb5).mono ?_); rintro r w6 ⟨hu6, u6, rfl, hb6⟩; obtain ⟨bb, ba, bn, bc, rfl⟩ := hb6.shape; have hu36 := ((hu3.trans hu4).trans hu5).trans hu6; have hBg := (Blk.new (w := w6) (b := w6.heap.size) 66 #[.bool false, .slice none 0 0] rfl).setRow #[.bool bb, .slice ba bn bc]; have hbg6 : Big _ _ z9 := big_set (D := #[.bool bb, .slice ba bn bc]) (Blk.new (w := w6) (b := w6.heap.size) 66 #[.bool false, .slice none 0 0] rfl) (big_alloc hb6); have hu6X := hu36.trans (below_setRow (Up.alloc w6 (.cells #[.bool false, .slice none 0 0] 66)) (Nat.le_refl _) #[.bool bb, .slice ba bn bc]))
        | (go_at_call 32; (with_reducible refine (HF9.out _ _ hbg6).mono ?_); rintro r w7 ⟨rfl, hu7⟩; replace hQ := (hQ.up hu6X).up hu7; replace hB := (hB.up hu6X).up hu7; replace hO := (hO.up hu6X).up hu7; replace hbg6 := hbg6.up hu7; replace hBg := hBg.up hu7; replace hU := (hU.trans hu6X).trans hu7))
       have hq0 := hB.cell 0 rfl
       have hq1 := hB.cell 1 rfl
       obtain ⟨b7, hb7⟩ : ∃ b, w6.heap.size = b := ⟨_, rfl⟩
       rw [hb7] at hBg
       rw [hb7]
       clear hb7 hu36 hu6X hu3 hu4 hu5 hu6 hb4 hb5 hb6 hc0
       refine opU (S := (fun wq => Blk wq w.heap.size 24 #[.int .i64 (n : Int), .slice (some ⟨g, 0, none⟩) l.length cA] /\ wq.cell? ⟨w.heap.size, 0, none⟩ = some (.int .i64 (n : Int)) /\ wq.cell? ⟨w.heap.size, 1, none⟩ = some (.slice (some ⟨g, 0, none⟩) l.length cA) /\ Blk wq b7 66 #[.bool bb, .slice ba bn bc] /\ Big wq (.agg #[.bool bb, .slice ba bn bc]) z9 /\ OwnI wq base (.slice (some ⟨g, 0, none⟩) l.length cA) M /\ Blk wq (w.heap.size + 1) 24 #[.int .i64 0, .slice none 0 0] /\ Below w.heap.size w wq)) (req := (fun j => j != 13)) (fun _ _ h hu => ⟨(h.1).up hu, hu.cell (h.2.1), hu.cell (h.2.2.1), (h.2.2.2.1).up hu, (h.2.2.2.2.1).up hu, (h.2.2.2.2.2.1).up hu, (h.2.2.2.2.2.2.1).up hu, below_up (h.2.2.2.2.2.2.2) hu⟩) ⟨gBlk, (by first | assumption | (apply Blk.cell; exact gBlk; exact rfl)), (by first | assumption | (apply Blk.cell; exact gBlk; exact rfl)), gBlk, (by (repeat (first | assumption | ((with_reducible apply big_set); exact gBlk) | (with_reducible apply big_alloc) | ((with_reducible apply big_up); assumption))); done), (by assumption), gBlk, gUp⟩ (fun wS hSS hSu => ?_)
       have ⟨hS1, hS2, hS3, hS4, hS5, hS6, hS7, hSB⟩ := hSS
       refine tkP 0 (some 33) hSu ?_
       refine tkT 1 (some 34) rfl hSu hSS ?_ (hy := fun w' hSw => by ((try dsimp only at hSw); (try obtain ⟨_, _, _, _, _, _, _, _⟩ := hSw); go_simp; (try exact rfl)))
       refine tkP 2 (some 35) hSu ?_
       refine tkT 3 (some 36) rfl hSu hSS ?_ (hy := fun w' hSw => by ((try dsimp only at hSw); (try obtain ⟨_, _, _, _, _, _, _, _⟩ := hSw); go_simp; (try exact rfl)))
       refine tkP 4 (some 37) hSu ?_
       refine tkP 5 (some 38) hSu ?_
       refine tkC 6 (some 39) rfl hSu hSS ?_ (hy := fun w' hSw => ((HX.out _).mono fun _ _ h => ⟨h.1, by rw [h.2]; exact Up.refl _⟩))
       refine tkT 7 (some 40) rfl hSu hSS ?_ (hy := fun w' hSw => run_ldB rfl rfl hSw.2.2.2.1 rfl)
       refine tkC 8 (some 41) rfl hSu hSS ?_ (hy := fun w' hSw => (HIn.out _ _ hSw.2.2.2.2.1))
       refine tkP 9 (some 32) hSu ?_
       refine tkP 10 (some 42) hSu ?_
       refine tkP 11 (some 43) hSu ?_
       refine tkP 12 (some 44) hSu ?_
       refine wpAnyU_one (i := 13) rfl (by kernel_rfl) (by rfl) fun wZ hwZ => ?_
       obtain ⟨hcW, hfW⟩ := (hS6.up hwZ).cells hkM
       go_simp
       clear hcW hfW
       refine wpAnyU_done (by kernel_rfl) (fun wF huE => ?_) _
       have hne1 : w.heap.size ≠ g := by omega
       have hne2 : w.heap.size + 1 ≠ g := by omega
       have hO5 := ((hS6.up hwZ).set hkM z9).up huE
       rw [HS9.out, mixed_same HlL.out HPS.out.1 HPS.out.2 (fun q h1 h2 => Hro.out q h1 h2)] at hO5
       have hB5 := ((hS1.up hwZ).other ⟨g, k, none⟩ (.int .i64 z9) hne1).up huE
       have hQ5 := ((hS7.up hwZ).other ⟨g, k, none⟩ (.int .i64 z9) hne2).up huE
       have hU5 := below_up ((below_up hSB hwZ).setCell (p := ⟨g, k, none⟩) (show w.heap.size <= g by omega) (.int .i64 z9)) huE
       have HFF : Hid (∀ q, q < pos n (i + 1) (i + 1) -> fit (zth L' q) = true) := hid (fun q hq => by
        rcases Nat.lt_trichotomy q k with h1 | h1 | h1
        ·exact HFit.out q h1
        ·rw [h1, HZ9.out]; exact Hf.out
        ·rw [Hro.out q h1 hq]; exact Hfl.out q (by have := HPS.out.2; omega))
       clear hq0 hq1 hwZ
       go_wp2_with fail
       go_roundg (n - (i + 1))
       case measure => omega
       case rel => exact ⟨i + 1, by omega, Nat.le_refl _, rfl, hO5, HFF.out, hB5, hQ5, hU5⟩
    ·obtain rfl : i = n := by omega
     rw [pos_end, <- HLn.out, <- HlL.out] at hO hfits
     rw [mixed_all HlL.out] at hO
     have HI := hid (In64.of_fit hfits)
     have HG := hid (Hgood.out hfits)
     clear hfits hlt
     go_wp2_with (first
      | ((with_reducible apply ldM_P); exact rfl; exact rfl; exact hB; exact rfl)
      | ((with_reducible apply stM_P); exact rfl; exact rfl; exact hQ; exact rfl; exact rfl; exact two2 _ _ _ _ _))
     rw [HG.out]
     exact bodyPost_ret (resMs (u := .int .i64 0) rfl rfl rfl (hQ.setRow _) rfl) rfl (RSymPost.ok hU (by omega) hQ hO HN64.out HI.out (by rw [HlL.out]; exact hlen))
theorem blk_ne {w : World} {b b' : Nat} {t t' : TypeId} {C C' : Array Value} (h : Blk w b t C) (h' : Blk w b' t' C') (hne : t ≠ t') : b ≠ b' := by
 rintro rfl
 unfold Blk at h h'
 rw [h] at h'
 injection h' with h'
 injection h' with _ ht
 exact hne ht
theorem OwnI.setRowB {w : World} {base g : Nat} {v : Value} {l : List Int} {C D : Array Value} (h : OwnI w base v l) (hg : Blk w g 66 C) : OwnI (w.setRow g D) base v l := by
 refine ⟨h.1, ?_⟩
 rcases h.2 with h2 | ⟨b, cap, cur, h1, h2, h3, h4⟩
 ·exact .inl h2
 ·exact .inr ⟨b, cap, cur, h1, h2, Blk.row_other (t := 2) h3 D (blk_ne (t := 2) h3 hg (by decide)), h4⟩
theorem run_ldME {ev : Operand -> Value} {w : World} {g : Nat} {C : Array Value} {o : Oper} {x : Operand} (ho : o.op = .load 24 x) (hx : ev x = .pointer (some ⟨g, 0, none⟩)) (hC : Blk w g 24 C) (h2 : C.size = 2) : (execOp ev o).run Tryz.prog w = .ok (.value (.agg C)) w := by
 obtain ⟨fs, hu⟩ := undM
 unfold execOp
 simp only [ho, hx, Instr.loadAt, Instr.sureAddr, Sem.run_bind, Sem.run_pure, Result.andThen_ok, run_loadVar_row w g _ 24 C (0, 0) _ hC hu rfl (by rw [infoM, h2])]
set_option maxHeartbeats 16000000 in
theorem router_any {v hv : Value} {N : Int} {l h : List Int} (x : Int) {w : World} (hm : Sm w v N l) (hh : Vw w hv h) (hx : I64 x) (hI : In64 h) (hh3 : h.length <= 1000) :
   Calls Tryz.prog 17 #[v, .int .i64 x, hv] w (RSymPost w (ouN N l x h) (ouR N l x h) (ouC N l x h)) := by
 have HR := hid (fun w' (hu : Up w w') => rright_any (hm.up hu))
 have HCP := hid (fun w' (hu : Up w w') => copy_any (hm.up hu))
 obtain ⟨s, rfl, hV, hN, hl, hlen⟩ := hm
 obtain ⟨p, cap, rfl, hcap, hc⟩ := hV
 have HH := hid hh
 obtain ⟨q, cq, rfl, _⟩ := hh
 obtain ⟨W0, hW0⟩ : ∃ W0, (w.alloc (.cells #[.int .i64 N, .slice p l.length cap] 24)).alloc (.cells #[.int .i64 0, .slice none 0 0] 24) = W0 := ⟨_, rfl⟩
 have hB : Blk W0 w.heap.size 24 #[.int .i64 N, .slice p l.length cap] := by rw [<- hW0]; exact (Blk.new _ _ rfl).old _
 have hQ : Blk W0 (w.heap.size + 1) 24 #[.int .i64 0, .slice none 0 0] := by rw [<- hW0]; exact Blk.new _ _ (by simp)
 have hU : Up w W0 := by rw [<- hW0]; exact (Up.alloc _ _).trans (Up.alloc _ _)
 cases hR : rt N l with
 | false =>
   have e : ouC N l x h = 23 := by unfold ouC; rw [hR]; rfl
   have e2 : ouR N l x h = [] := by unfold ouR; rw [e]; rfl
   have e3 : ouN N l x h = 0 := by unfold ouN; rw [e]; rfl
   rw [e, e2, e3]
   rw [hR] at HR
   clear e e2 e3 hR hc hl hN hI
   go_enter Tryz.func17, Tryz.ntmps17
   go_wp2_with (first
    | ((with_reducible apply ldM_P); exact rfl; exact rfl; exact hB; exact rfl)
    | (go_at_call 33; (with_reducible refine (HR.out _ hU).mono ?_); rintro r w1 ⟨rfl, hu1⟩; replace hQ := hQ.up hu1)
    | ((with_reducible apply stM_P); exact rfl; exact rfl; exact hQ; exact rfl; exact rfl; exact two2 _ _ _ _ _))
   exact bodyPost_ret (resMs (u := .int .i64 23) rfl rfl rfl (hQ.setRow _) rfl) rfl (RSymPost.err 23 (hU.trans hu1) (by omega))
 | true =>
   rw [hR] at HR
   by_cases hn0 : (h.length : Int) = N
   ·obtain ⟨n, rfl⟩ : ∃ n : Nat, N = (n : Int) := ⟨h.length, hn0.symm⟩
    obtain ⟨_, n8, htri, _⟩ := rt_spec hR
    rw [tri_nat] at htri
    have n8' : n <= 8 := by omega
    have hln : l.length = triN n := by omega
    have hhn : h.length = n := by omega
    have d3 : ((h.length : Int) != (n : Int)) = false := by rw [hn0]; simp
    have eN : ((n : Int)).toNat = n := by omega
    have HLn := hid hln
    have HhL := hid hhn
    have HI64 := hid hI
    have Hl64 := hid hl
    have hx64 := hid hx
    have HO := hid (fun v (hv : I64 v) w => of_big v hv.1 hv.2 w)
    obtain ⟨L', hL'⟩ : ∃ L', ouL n l x h = L' := ⟨_, rfl⟩
    have HlL : Hid (L'.length = l.length) := hid (by rw [<- hL', ouL_len])
    have Hat : Hid (∀ i j, i <= j -> j < n -> zth L' (pos n i j) = zth l (pos n i j) + x * zth h i * zth h j) := hid (fun i j hij hj => by rw [<- hL']; exact ouL_at x h n8' hln hij hj)
    obtain ⟨hc9, hd9⟩ : (∀ k, k < L'.length -> fit (zth L' k) = false -> RSymPost w (ouN n l x h) (ouR n l x h) (ouC n l x h) = RSymPost w 0 [] 21) /\
       ((∀ k, k < L'.length -> fit (zth L' k) = true) -> RSymPost w (ouN n l x h) (ouR n l x h) (ouC n l x h) = RSymPost w n L' 0) := by
     refine ⟨fun k hk hf => ?_, fun hf => ?_⟩
     ·have e : ouC n l x h = 21 := by unfold ouC; rw [hR, decide_eq_true hn0, eN, hL', all_no hk hf]; rfl
      unfold ouN ouR; rw [e]; rfl
     ·have e : ouC n l x h = 0 := by unfold ouC; rw [hR, decide_eq_true hn0, eN, hL', all_yes hf]; rfl
      unfold ouN ouR; rw [e, if_pos rfl, if_pos rfl, eN, hL']
    have Hbad := hid hc9
    have Hgood := hid hd9
    obtain ⟨PP, hPP⟩ : ∃ PP, RSymPost w (ouN n l x h) (ouR n l x h) (ouC n l x h) = PP := ⟨_, rfl⟩
    rw [hPP] at Hbad Hgood ⊢
    have HN64 := hid hN
    clear hPP hc9 hd9 hL' hc hl hI hx hR hn0 htri hln hhn hN eN hcap
    go_enter Tryz.func17, Tryz.ntmps17
    go_wp2_with (first
     | ((with_reducible apply ldM_P); exact rfl; exact rfl; exact hB; exact rfl)
     | (go_at_call 33; (with_reducible refine (HR.out _ hU).mono ?_); rintro r w1 ⟨rfl, hu1⟩; replace hQ := hQ.up hu1; replace hB := hB.up hu1; replace hU := hU.trans hu1; have hc0 := hB.cell 0 rfl)
     | (go_at_call 34; (with_reducible refine (HCP.out _ hU).mono ?_); rintro r w2 ⟨sA, rfl, hu2, hO⟩; have hlt := hB.lt; have hlt2 := hQ.lt; replace hQ := hQ.up hu2; replace hB := hB.up hu2; replace hU := hU.trans hu2; obtain ⟨pA, nA, cA, rfl⟩ := OwnI.slice hO; have hO2 := OwnI.setRow (D := #[.int .i64 (n : Int), .slice pA nA cA]) hO hB; have hB2 := hB.setRow #[.int .i64 (n : Int), .slice pA nA cA]; have hQ2 := Blk.row_other hQ #[.int .i64 (n : Int), .slice pA nA cA] (show w.heap.size + 1 ≠ w.heap.size by omega); have hU2 := below_setRow hU (Nat.le_refl _) #[.int .i64 (n : Int), .slice pA nA cA])
     | ((with_reducible apply stM_P); exact rfl; exact rfl; exact hB; exact rfl; exact rfl; exact two2 _ _ _ _ _))
    obtain ⟨base, hbase⟩ : ∃ b, w1.heap.size = b := ⟨_, rfl⟩
    have hbs : w.heap.size + 1 < base := by omega
    rw [hbase] at hO2
    clear hbase hlt hlt2 hu1 hu2 hO hB hQ hU hc0 hW0
    go_loopg [8] n (fun g ti wr => ∃ i : Nat, i <= n /\ n - i <= g /\ ti = .int .i64 (i : Nat) /\ RInv w base w.heap.size (w.heap.size + 1) n (.slice pA nA cA) L' l (pos n i i) wr)
    case atStart => exact ⟨0, Nat.zero_le _, by omega, rfl, by rw [pos_zero, mixed_zero]; exact hO2, fun q hq => by rw [pos_zero] at hq; omega, hB2, hQ2, hU2⟩
    case round =>
     clear hB2 hQ2 hU2 hO2
     obtain ⟨i, hi, hig, rfl, hO, hfits, hB, hQ, hU⟩ := hrel
     have hc0 := hB.cell 0 rfl
     by_cases hlt : i < n
     ·have e1 : IntKind.i64.wrap ((i : Int) + 1) = (i : Int) + 1 := IntWalk.i64_in _ (by omega)
      go_wp2_with fail
      go_loopg [9] n (fun g tj wj => ∃ j : Nat, i <= j /\ j <= n /\ n - j <= g /\ tj = .int .i64 (j : Nat) /\ RInv w base w.heap.size (w.heap.size + 1) n (.slice pA nA cA) L' l (pos n i j) wj)
      case atStart => exact ⟨i, Nat.le_refl _, hi, by omega, rfl, hO, hfits, hB, hQ, hU⟩
      case round =>
       clear hO hfits hB hQ hU hc0
       obtain ⟨j, hij, hj, hjg, rfl, hO, hfits, hB, hQ, hU⟩ := hrel
       have hc0 := hB.cell 0 rfl
       by_cases hjlt : j < n
       ·have hkl : pos n i j < l.length := by rw [HLn.out]; exact pos_lt hij hjlt
        have hM64 := In64.mixed HlL.out Hl64.out hfits
        have HSm := hid (hO.sm HN64.out hM64 (by rw [mixed_len HlL.out]; exact hlen))
        have HAt := hid (fun w' (hu : Up wr w') => rat_ent2 (HSm.out.up hu) n8' (by rw [mixed_len HlL.out]; exact HLn.out) hij hjlt)
        have hat := Hat.out i j hij hjlt
        have HX := hid (fun w => (pos_idx hij hjlt) ▸ rat_any (n : Int) (i : Int) (j : Int) (by omega) (by omega) (by omega) (by omega) (by omega) w)
        have HFit := hid hfits
        obtain ⟨k, hk⟩ : ∃ k, pos n i j = k := ⟨_, rfl⟩
        have HK := hid hk
        rw [hk] at hkl HAt hat hO HX HFit
        obtain ⟨g, cp, C, hv, hbg, -⟩ := hO.open (by rw [mixed_len HlL.out]; omega)
        injection hv with x1 x2 x3
        rw [mixed_len HlL.out] at x2
        subst x1 x2 x3
        have hihl : i < h.length := by rw [HhL.out]; exact hlt
        have hjhl : j < h.length := by rw [HhL.out]; exact hjlt
        obtain ⟨q', cq', xq, _, hcq⟩ := HH.out
        injection xq with y1 y2 y3
        subst y1 y3
        obtain ⟨ad, rfl, _⟩ := hcq i hihl
        have HAd := hid (fun w' (hu : Up w w') (i : Nat) (hi : i < h.length) => (show w'.cell? (ad.add i) = some (.int .i64 (zth h i)) from by obtain ⟨a2, z1, z2⟩ := hcq i hi; injection z1 with z1; subst z1; exact hu.cellEq z2))
        have hmx : zth (mixed L' l k) k = zth l k := mixed_at HlL.out hkl
        rw [hmx] at HAt
        have hak := Hl64.out k hkl
        have hzi := HI64.out i hihl
        have hzj := HI64.out j hjhl
        have b0 := i64_bp hak
        have b1 := i64_bp hx64.out
        have b2 := i64_bp hzi
        have b3 := i64_bp hzj
        have b4 : (zth h i * zth h j).natAbs < bp 2 := by rw [Int.natAbs_mul, bp_add 1 1]; exact Nat.mul_lt_mul'' b2 b3
        have b5 : (x * (zth h i * zth h j)).natAbs < bp 3 := by rw [Int.natAbs_mul, bp_add 1 2]; exact Nat.mul_lt_mul'' b1 b4
        have hat' : zth L' k = zth l k + x * (zth h i * zth h j) := by rw [hat, Int.mul_assoc]
        have b6 : (zth L' k).natAbs < bp 4 := by
         rw [hat']
         have c1 : bp 4 = bp 3 * 18446744073709551616 := bp_succ 3
         have c2 : bp 1 <= bp 3 := bp_mono (by omega)
         omega
        have n0 := nl_bp (by omega) b0
        have n1 := nl_bp (by omega) b1
        have n2 := nl_bp (by omega) b2
        have n3 := nl_bp (by omega) b3
        have n4 := nl_bp (by omega) b4
        have n5 := nl_bp (by omega) b5
        have HN3 := hid (nl_bp (by omega) b6)
        have HOk := hid (HO.out (zth l k) hak)
        have HOx := hid (HO.out x hx64.out)
        have HOi := hid (HO.out (zth h i) hzi)
        have HOj := hid (HO.out (zth h j) hzj)
        have HM1 := hid (fun (va vb : Value) (w : World) (ha : Big w va (zth h i)) (hb : Big w vb (zth h j)) => mul_big ha hb n2 n3)
        have HM2 := hid (fun (va vb : Value) (w : World) (ha : Big w va x) (hb : Big w vb (zth h i * zth h j)) => mul_big ha hb n1 n4)
        have HAD := hid (fun (va vb : Value) (w : World) (ha : Big w va (zth l k)) (hb : Big w vb (x * (zth h i * zth h j))) => hat' ▸ add_big ha hb n0 n5)
        have HS9 := hid (mixed_set HlL.out hkl)
        have HML := hid (mixed_len HlL.out k)
        clear hat hat' n0 n1 n2 n3 n4 n5 b0 b1 b2 b3 b4 b5 b6 hak hzi hzj hk hM64 hfits hcq y2 hmx HSm
        obtain ⟨z9, hz9'⟩ : ∃ z, zth L' k = z := ⟨_, rfl⟩
        have HZ9 := hid hz9'
        rw [hz9'] at HS9 HN3 HAD
        clear hz9'
        obtain ⟨p2, hp2⟩ : ∃ z, x * (zth h i * zth h j) = z := ⟨_, rfl⟩
        rw [hp2] at HM2 HAD
        clear hp2
        obtain ⟨p1, hp1⟩ : ∃ z, zth h i * zth h j = z := ⟨_, rfl⟩
        rw [hp1] at HM1 HM2
        clear hp1
        obtain ⟨zi, hzi9⟩ : ∃ z, zth h i = z := ⟨_, rfl⟩
        obtain ⟨zj, hzj9⟩ : ∃ z, zth h j = z := ⟨_, rfl⟩
        have HZi := hid hzi9
        have HZj := hid hzj9
        rw [hzi9, hzj9] at HM1
        rw [hzi9] at HOi
        rw [hzj9] at HOj
        clear hzi9 hzj9
        generalize zth l k = ak at *
        obtain ⟨M, hM9⟩ : ∃ M, mixed L' l k = M := ⟨_, rfl⟩
        rw [hM9] at hO HS9 HML
        clear hM9
        have hkM : k < M.length := by rw [HML.out]; exact hkl
        have hVh := Vw.up hU HH.out
        go_wp2_with fail
        refine wp_region_sp (n := 75) 21 [37, 38, 39, 40, 41, 42, 43, 44, 45, 46, 47, 48, 49, 50, 51, 52, 53, 54, 55, 56, 10] [SP.is (.agg #[.int .i64 (n : Int), .slice (some ⟨g, 0, none⟩) l.length cA]), SP.is (.int .i64 (i : Nat)), SP.is (.int .i64 (j : Nat)), SP.is (.int .i64 ak), SP.of (fun v w1 => Big w1 v ak) (fun _ _ _ h hu => h.up hu), SP.is (.int .i64 x), SP.of (fun v w1 => Big w1 v x) (fun _ _ _ h hu => h.up hu), SP.is (.slice (some ad) h.length cq), SP.is (.int .i64 (i : Nat)), SP.is (.pointer (some (ad.add i))), SP.is (.int .i64 zi), SP.of (fun v w1 => Big w1 v zi) (fun _ _ _ h hu => h.up hu), SP.is (.slice (some ad) h.length cq), SP.is (.int .i64 (j : Nat)), SP.is (.pointer (some (ad.add j))), SP.is (.int .i64 zj), SP.of (fun v w1 => Big w1 v zj) (fun _ _ _ h hu => h.up hu), SP.of (fun v w1 => Big w1 v p1) (fun _ _ _ h hu => h.up hu), SP.of (fun v w1 => Big w1 v p2) (fun _ _ _ h hu => h.up hu), SP.of (fun v w1 => Big w1 v z9) (fun _ _ _ h hu => h.up hu), SP.of (fun v w1 => ∃ b, v = .pointer (some ⟨b, 0, none⟩) /\ w.heap.size <= b /\ Blk w1 b 66 #[.bool false, .slice none 0 0]) (fun _ _ _ h hu => h.imp fun _ k => ⟨k.1, k.2.1, k.2.2.up hu⟩), SP.any] (fun wq => Blk wq w.heap.size 24 #[.int .i64 (n : Int), .slice (some ⟨g, 0, none⟩) l.length cA] /\ Up wr wq /\ Below w.heap.size w wq) (by kernel_rfl) (by rfl) (by kernel_rfl) (by kernel_rfl) (fun _ _ h hu => ⟨(h.1).up hu, (h.2.1).trans hu, below_up (h.2.2) hu⟩) ⟨(by first | assumption | exact gBlk), (by first | exact Up.refl _ | assumption), gUp⟩ (fun ev w9 hS9 i o hne hi hev => ?_) (fun gR wE hq hSE huE => ?_)
        ·have ⟨hS1, hS2, hSB⟩ := hS9
         have hcC := hev.const
         have hcF := hev.func
         have hcG := hev.global
         rcases i with _ | _ | _ | _ | _ | _ | _ | _ | _ | _ | _ | _ | _ | _ | _ | _ | _ | _ | _ | _ | _ | _ | i
         ·obtain rfl := oI hi
          have e3 := hev.other 3 (by kernel_rfl)
          simp [Act.eval] at e3
          exact leavesR_value (run_ldME rfl e3 hS1 rfl) rfl
         ·obtain rfl := oI hi
          have e8 := hev.other 8 (by kernel_rfl)
          simp [Act.eval] at e8
          exact lV (.int .i64 (i : Nat))
         ·obtain rfl := oI hi
          have e9 := hev.other 9 (by kernel_rfl)
          simp [Act.eval] at e9
          exact lV (.int .i64 (j : Nat))
         ·obtain rfl := oI hi
          have e37 : ev (.tmp 37) = (.agg #[.int .i64 (n : Int), .slice (some ⟨g, 0, none⟩) l.length cA]) := hev.dep 0 37 (by kernel_rfl)
          have e38 : ev (.tmp 38) = (.int .i64 (i : Nat)) := hev.dep 1 38 (by kernel_rfl)
          have e39 : ev (.tmp 39) = (.int .i64 (j : Nat)) := hev.dep 2 39 (by kernel_rfl)
          refine leavesR_call ?_ ((HAt.out _ hS2).mono fun _ _ h => ⟨h.2, _, h.1, rfl⟩)
          go_simp
         ·obtain rfl := oI hi
          have e40 : ev (.tmp 40) = (.int .i64 ak) := hev.dep 3 40 (by kernel_rfl)
          refine leavesR_call ?_ (HOk.out _)
          go_simp
         ·obtain rfl := oI hi
          have e1 := hev.other 1 (by kernel_rfl)
          simp [Act.eval] at e1
          exact lV (.int .i64 x)
         ·obtain rfl := oI hi
          have e42 : ev (.tmp 42) = (.int .i64 x) := hev.dep 5 42 (by kernel_rfl)
          refine leavesR_call ?_ (HOx.out _)
          go_simp
         ·obtain rfl := oI hi
          have e2 := hev.other 2 (by kernel_rfl)
          simp [Act.eval] at e2
          exact lV (.slice (some ad) h.length cq)
         ·obtain rfl := oI hi
          have e8 := hev.other 8 (by kernel_rfl)
          simp [Act.eval] at e8
          exact lV (.int .i64 (i : Nat))
         ·obtain rfl := oI hi
          have e44 : ev (.tmp 44) = (.slice (some ad) h.length cq) := hev.dep 7 44 (by kernel_rfl)
          have e45 : ev (.tmp 45) = (.int .i64 (i : Nat)) := hev.dep 8 45 (by kernel_rfl)
          exact lV (.pointer (some (ad.add i)))
         ·obtain rfl := oI hi
          have e46 : ev (.tmp 46) = (.pointer (some (ad.add i))) := hev.dep 9 46 (by kernel_rfl)
          have hcx := HAd.out w9 hSB i hihl; rw [HZi.out] at hcx; exact leavesR_value (u := .int .i64 zi) (by go_simp) rfl
         ·obtain rfl := oI hi
          have e47 : ev (.tmp 47) = (.int .i64 zi) := hev.dep 10 47 (by kernel_rfl)
          refine leavesR_call ?_ (HOi.out _)
          go_simp
         ·obtain rfl := oI hi
          have e2 := hev.other 2 (by kernel_rfl)
          simp [Act.eval] at e2
          exact lV (.slice (some ad) h.length cq)
         ·obtain rfl := oI hi
          have e9 := hev.other 9 (by kernel_rfl)
          simp [Act.eval] at e9
          exact lV (.int .i64 (j : Nat))
         ·obtain rfl := oI hi
          have e49 : ev (.tmp 49) = (.slice (some ad) h.length cq) := hev.dep 12 49 (by kernel_rfl)
          have e50 : ev (.tmp 50) = (.int .i64 (j : Nat)) := hev.dep 13 50 (by kernel_rfl)
          exact lV (.pointer (some (ad.add j)))
         ·obtain rfl := oI hi
          have e51 : ev (.tmp 51) = (.pointer (some (ad.add j))) := hev.dep 14 51 (by kernel_rfl)
          have hcx := HAd.out w9 hSB j hjhl; rw [HZj.out] at hcx; exact leavesR_value (u := .int .i64 zj) (by go_simp) rfl
         ·obtain rfl := oI hi
          have e52 : ev (.tmp 52) = (.int .i64 zj) := hev.dep 15 52 (by kernel_rfl)
          refine leavesR_call ?_ (HOj.out _)
          go_simp
         ·obtain rfl := oI hi
          have e48 : (fun v w1 => Big w1 v zi) (ev (.tmp 48)) w9 := hev.dep 11 48 (by kernel_rfl)
          dsimp only at e48
          obtain ⟨v48, hv48⟩ : ∃ v, ev (.tmp 48) = v := ⟨_, rfl⟩
          rw [hv48] at e48
          have e53 : (fun v w1 => Big w1 v zj) (ev (.tmp 53)) w9 := hev.dep 16 53 (by kernel_rfl)
          dsimp only at e53
          obtain ⟨v53, hv53⟩ : ∃ v, ev (.tmp 53) = v := ⟨_, rfl⟩
          rw [hv53] at e53
          refine leavesR_call ?_ (HM1.out _ _ _ e48 e53)
          go_simp
         ·obtain rfl := oI hi
          have e43 : (fun v w1 => Big w1 v x) (ev (.tmp 43)) w9 := hev.dep 6 43 (by kernel_rfl)
          dsimp only at e43
          obtain ⟨v43, hv43⟩ : ∃ v, ev (.tmp 43) = v := ⟨_, rfl⟩
          rw [hv43] at e43
          have e54 : (fun v w1 => Big w1 v p1) (ev (.tmp 54)) w9 := hev.dep 17 54 (by kernel_rfl)
          dsimp only at e54
          obtain ⟨v54, hv54⟩ : ∃ v, ev (.tmp 54) = v := ⟨_, rfl⟩
          rw [hv54] at e54
          refine leavesR_call ?_ (HM2.out _ _ _ e43 e54)
          go_simp
         ·obtain rfl := oI hi
          have e41 : (fun v w1 => Big w1 v ak) (ev (.tmp 41)) w9 := hev.dep 4 41 (by kernel_rfl)
          dsimp only at e41
          obtain ⟨v41, hv41⟩ : ∃ v, ev (.tmp 41) = v := ⟨_, rfl⟩
          rw [hv41] at e41
          have e55 : (fun v w1 => Big w1 v p2) (ev (.tmp 55)) w9 := hev.dep 18 55 (by kernel_rfl)
          dsimp only at e55
          obtain ⟨v55, hv55⟩ : ∃ v, ev (.tmp 55) = v := ⟨_, rfl⟩
          rw [hv55] at e55
          refine leavesR_call ?_ (HAD.out _ _ _ e41 e55)
          go_simp
         ·obtain rfl := oI hi
          exact leavesR_up (u := .pointer (some ⟨w9.heap.size, 0, none⟩)) (w' := w9.alloc (.cells #[.bool false, .slice none 0 0] 66)) (by go_simp) (Up.alloc _ _) ⟨_, rfl, hSB.size, Blk.new _ _ rfl⟩
         ·exact absurd rfl hne
         ·exact absurd (show i + 22 < 22 from (Array.getElem?_eq_some_iff.1 hi).1) (by omega)
        have ⟨hS1, hS2, hSB⟩ := hSE
        have q0 : gR 37 = (.agg #[.int .i64 (n : Int), .slice (some ⟨g, 0, none⟩) l.length cA]) := hq 0 37 (by decide) (by kernel_rfl)
        have q1 : gR 38 = (.int .i64 (i : Nat)) := hq 1 38 (by decide) (by kernel_rfl)
        have q2 : gR 39 = (.int .i64 (j : Nat)) := hq 2 39 (by decide) (by kernel_rfl)
        have q3 : gR 40 = (.int .i64 ak) := hq 3 40 (by decide) (by kernel_rfl)
        have q4 : (fun v w1 => Big w1 v ak) (gR 41) wE := hq 4 41 (by decide) (by kernel_rfl)
        dsimp only at q4
        obtain ⟨v41, hv41⟩ : ∃ v, gR 41 = v := ⟨_, rfl⟩
        rw [hv41] at q4
        have q5 : gR 42 = (.int .i64 x) := hq 5 42 (by decide) (by kernel_rfl)
        have q6 : (fun v w1 => Big w1 v x) (gR 43) wE := hq 6 43 (by decide) (by kernel_rfl)
        dsimp only at q6
        obtain ⟨v43, hv43⟩ : ∃ v, gR 43 = v := ⟨_, rfl⟩
        rw [hv43] at q6
        have q7 : gR 44 = (.slice (some ad) h.length cq) := hq 7 44 (by decide) (by kernel_rfl)
        have q8 : gR 45 = (.int .i64 (i : Nat)) := hq 8 45 (by decide) (by kernel_rfl)
        have q9 : gR 46 = (.pointer (some (ad.add i))) := hq 9 46 (by decide) (by kernel_rfl)
        have q10 : gR 47 = (.int .i64 zi) := hq 10 47 (by decide) (by kernel_rfl)
        have q11 : (fun v w1 => Big w1 v zi) (gR 48) wE := hq 11 48 (by decide) (by kernel_rfl)
        dsimp only at q11
        obtain ⟨v48, hv48⟩ : ∃ v, gR 48 = v := ⟨_, rfl⟩
        rw [hv48] at q11
        have q12 : gR 49 = (.slice (some ad) h.length cq) := hq 12 49 (by decide) (by kernel_rfl)
        have q13 : gR 50 = (.int .i64 (j : Nat)) := hq 13 50 (by decide) (by kernel_rfl)
        have q14 : gR 51 = (.pointer (some (ad.add j))) := hq 14 51 (by decide) (by kernel_rfl)
        have q15 : gR 52 = (.int .i64 zj) := hq 15 52 (by decide) (by kernel_rfl)
        have q16 : (fun v w1 => Big w1 v zj) (gR 53) wE := hq 16 53 (by decide) (by kernel_rfl)
        dsimp only at q16
        obtain ⟨v53, hv53⟩ : ∃ v, gR 53 = v := ⟨_, rfl⟩
        rw [hv53] at q16
        have q17 : (fun v w1 => Big w1 v p1) (gR 54) wE := hq 17 54 (by decide) (by kernel_rfl)
        dsimp only at q17
        obtain ⟨v54, hv54⟩ : ∃ v, gR 54 = v := ⟨_, rfl⟩
        rw [hv54] at q17
        have q18 : (fun v w1 => Big w1 v p2) (gR 55) wE := hq 18 55 (by decide) (by kernel_rfl)
        dsimp only at q18
        obtain ⟨v55, hv55⟩ : ∃ v, gR 55 = v := ⟨_, rfl⟩
        rw [hv55] at q18
        have q19 : (fun v w1 => Big w1 v z9) (gR 56) wE := hq 19 56 (by decide) (by kernel_rfl)
        dsimp only at q19
        obtain ⟨v56, hv56⟩ : ∃ v, gR 56 = v := ⟨_, rfl⟩
        rw [hv56] at q19
        have q20 : (fun v w1 => ∃ b, v = .pointer (some ⟨b, 0, none⟩) /\ w.heap.size <= b /\ Blk w1 b 66 #[.bool false, .slice none 0 0]) (gR 10) wE := hq 20 10 (by decide) (by kernel_rfl)
        dsimp only at q20
        obtain ⟨v10, hv10⟩ : ∃ v, gR 10 = v := ⟨_, rfl⟩
        rw [hv10] at q20
        refine ⟨fun h => absurd h (by decide), fun o ho => ?_⟩
        obtain rfl := oI ho
        simp only [putL, List.map_cons, List.map_nil, q0, q1, q2, q3, hv41, q5, hv43, q7, q8, q9, q10, hv48, q12, q13, q14, q15, hv53, hv54, hv55, hv56, hv10, Act.put, pu1, pu2, pu3]
        clear hq hSE q0 q1 q2 q3 q5 q7 q8 q9 q10 q12 q13 q14 q15
        obtain ⟨b7, rfl, hb7, hBz⟩ := q20
        obtain ⟨bb, ba, bn, bc, rfl⟩ := q19.shape
        refine wp_stB rfl rfl rfl rfl hBz rfl rfl (one2 _ _ _ _) ?_
        have hB7 := Blk.row_other (hB.up huE) #[.bool bb, .slice ba bn bc] (blk_ne (hB.up huE) hBz (by decide))
        have hQ7 := Blk.row_other (hQ.up huE) #[.bool bb, .slice ba bn bc] (blk_ne (hQ.up huE) hBz (by decide))
        have hO7 := OwnI.setRowB (D := #[.bool bb, .slice ba bn bc]) (hO.up huE) hBz
        have hU7 := below_setRow (hU.trans huE) hb7 #[.bool bb, .slice ba bn bc]
        have hBg := hBz.setRow #[.bool bb, .slice ba bn bc]
        have hbg6 := big_set (D := #[.bool bb, .slice ba bn bc]) hBz q19
        obtain ⟨wK, hwK⟩ : ∃ wK, wE.setRow b7 #[.bool bb, .slice ba bn bc] = wK := ⟨_, rfl⟩
        rw [hwK] at hB7 hQ7 hO7 hU7 hBg hbg6 ⊢
        clear hwK hBz q19 q17 q18 q16 q11 q6 q4 hS1 hS2 hSB huE hB hQ hO hU hc0 hVh
        cases hf : fit z9 with
        | false =>
          have HF9 := hid (fun (va : Value) (w : World) (hb : Big w va z9) => hf ▸ rfits_any hb HN3.out)
          have Hf := hid hf
          clear hf
          go_wp2_with (first
           | ((with_reducible apply ldB_P); exact rfl; exact rfl; exact hBg; exact rfl)
           | (go_at_call 32; (with_reducible refine (HF9.out _ _ hbg6).mono ?_); rintro r w7 ⟨rfl, hu7⟩; replace hQ7 := hQ7.up hu7)
           | ((with_reducible apply stM_P); exact rfl; exact rfl; exact hQ7; exact rfl; exact rfl; exact two2 _ _ _ _ _))
          rw [Hbad.out k (by rw [HlL.out]; exact hkl) (by rw [HZ9.out]; exact Hf.out)]
          exact bodyPost_ret (resMs (u := .int .i64 21) rfl rfl rfl (hQ7.setRow _) rfl) rfl (RSymPost.err 21 (below_up hU7 hu7) (by omega))
        | true =>
          have HF9 := hid (fun (va : Value) (w : World) (hb : Big w va z9) => hf ▸ rfits_any hb HN3.out)
          have Hf := hid hf
          have HIn := hid (fun (va : Value) (w : World) (hb : Big w va z9) => (i64V_yes (fit_i64 hf)) ▸ int64_big hb HN3.out)
          clear hf
          go_wp2_with (first
           | ((with_reducible apply ldB_P); exact rfl; exact rfl; exact hBg; exact rfl)
           | (go_at_call 32; (with_reducible refine (HF9.out _ _ hbg6).mono ?_); rintro r w7 ⟨rfl, hu7⟩; replace hQ7 := hQ7.up hu7; replace hB7 := hB7.up hu7; replace hO7 := hO7.up hu7; replace hbg6 := hbg6.up hu7; replace hBg := hBg.up hu7; replace hU7 := below_up hU7 hu7))
          have hq0 := hB7.cell 0 rfl
          have hq1 := hB7.cell 1 rfl
          refine opU (S := (fun wq => Blk wq w.heap.size 24 #[.int .i64 (n : Int), .slice (some ⟨g, 0, none⟩) l.length cA] /\ wq.cell? ⟨w.heap.size, 0, none⟩ = some (.int .i64 (n : Int)) /\ wq.cell? ⟨w.heap.size, 1, none⟩ = some (.slice (some ⟨g, 0, none⟩) l.length cA) /\ Blk wq b7 66 #[.bool bb, .slice ba bn bc] /\ Big wq (.agg #[.bool bb, .slice ba bn bc]) z9 /\ OwnI wq base (.slice (some ⟨g, 0, none⟩) l.length cA) M /\ Blk wq (w.heap.size + 1) 24 #[.int .i64 0, .slice none 0 0] /\ Below w.heap.size w wq)) (req := (fun j => j != 13)) (fun _ _ h hu => ⟨(h.1).up hu, hu.cell (h.2.1), hu.cell (h.2.2.1), (h.2.2.2.1).up hu, (h.2.2.2.2.1).up hu, (h.2.2.2.2.2.1).up hu, (h.2.2.2.2.2.2.1).up hu, below_up (h.2.2.2.2.2.2.2) hu⟩) ⟨gBlk, (by first | assumption | (apply Blk.cell; exact gBlk; exact rfl)), (by first | assumption | (apply Blk.cell; exact gBlk; exact rfl)), gBlk, (by (repeat (first | assumption | ((with_reducible apply big_set); exact gBlk) | (with_reducible apply big_alloc) | ((with_reducible apply big_up); assumption))); done), (by assumption), gBlk, gUp⟩ (fun wS hSS hSu => ?_)
          have ⟨hS1, hS2, hS3, hS4, hS5, hS6, hS7, hSB⟩ := hSS
          refine tkP 0 (some 62) hSu ?_
          refine tkT 1 (some 63) rfl hSu hSS ?_ (hy := fun w' hSw => by ((try dsimp only at hSw); (try obtain ⟨_, _, _, _, _, _, _, _⟩ := hSw); go_simp; (try exact rfl)))
          refine tkP 2 (some 64) hSu ?_
          refine tkT 3 (some 65) rfl hSu hSS ?_ (hy := fun w' hSw => by ((try dsimp only at hSw); (try obtain ⟨_, _, _, _, _, _, _, _⟩ := hSw); go_simp; (try exact rfl)))
          refine tkP 4 (some 66) hSu ?_
          refine tkP 5 (some 67) hSu ?_
          refine tkC 6 (some 68) rfl hSu hSS ?_ (hy := fun w' hSw => ((HX.out _).mono fun _ _ h => ⟨h.1, by rw [h.2]; exact Up.refl _⟩))
          refine tkT 7 (some 69) rfl hSu hSS ?_ (hy := fun w' hSw => run_ldB rfl rfl hSw.2.2.2.1 rfl)
          refine tkC 8 (some 70) rfl hSu hSS ?_ (hy := fun w' hSw => (HIn.out _ _ hSw.2.2.2.2.1))
          refine tkP 9 (some 61) hSu ?_
          refine tkP 10 (some 71) hSu ?_
          refine tkP 11 (some 72) hSu ?_
          refine tkP 12 (some 73) hSu ?_
          refine wpAnyU_one (i := 13) rfl (by kernel_rfl) (by rfl) fun wZ hwZ => ?_
          obtain ⟨hcW, hfW⟩ := (hS6.up hwZ).cells hkM
          go_simp
          clear hcW hfW
          refine wpAnyU_done (by kernel_rfl) (fun wF huE => ?_) _
          have hne1 : w.heap.size ≠ g := by omega
          have hne2 : w.heap.size + 1 ≠ g := by omega
          have hO5 := ((hS6.up hwZ).set hkM z9).up huE
          rw [HS9.out] at hO5
          have hB5 := ((hS1.up hwZ).other ⟨g, k, none⟩ (.int .i64 z9) hne1).up huE
          have hQ5 := ((hS7.up hwZ).other ⟨g, k, none⟩ (.int .i64 z9) hne2).up huE
          have hU5 := below_up ((below_up hSB hwZ).setCell (p := ⟨g, k, none⟩) (show w.heap.size <= g by omega) (.int .i64 z9)) huE
          clear hq0 hq1 hwZ
          go_wp2_with fail
          go_roundg (n - (j + 1))
          case measure => omega
          case rel => exact ⟨j + 1, by omega, by omega, Nat.le_refl _, rfl, by rw [pos_succ hij, HK.out]; exact ⟨hO5, fun q hq => by rcases Nat.lt_succ_iff_lt_or_eq.1 hq with h1 | h1; exact HFit.out q h1; rw [h1, HZ9.out]; exact Hf.out, hB5, hQ5, hU5⟩⟩
       ·obtain rfl : j = n := by omega
        have HP := hid (pos_row hlt)
        go_wp2_with fail
        go_roundg (j - (i + 1))
        case measure => omega
        case rel => exact ⟨i + 1, hlt, Nat.le_refl _, rfl, by rw [<- HP.out]; exact ⟨hO, hfits, hB, hQ, hU⟩⟩
     ·obtain rfl : i = n := by omega
      rw [pos_end, <- HLn.out, <- HlL.out] at hO hfits
      rw [mixed_all HlL.out] at hO
      have HI := hid (In64.of_fit hfits)
      have HG := hid (Hgood.out hfits)
      clear hfits hlt
      go_wp2_with (first
       | ((with_reducible apply ldM_P); exact rfl; exact rfl; exact hB; exact rfl)
       | ((with_reducible apply stM_P); exact rfl; exact rfl; exact hQ; exact rfl; exact rfl; exact two2 _ _ _ _ _))
      rw [HG.out]
      exact bodyPost_ret (resMs (u := .int .i64 0) rfl rfl rfl (hQ.setRow _) rfl) rfl (RSymPost.ok hU (by omega) hQ hO HN64.out HI.out (by rw [HlL.out]; exact hlen))
   ·have e : ouC N l x h = 23 := by unfold ouC; rw [hR, decide_eq_false hn0]; rfl
    have e2 : ouR N l x h = [] := by unfold ouR; rw [e]; rfl
    have e3 : ouN N l x h = 0 := by unfold ouN; rw [e]; rfl
    rw [e, e2, e3]
    have d3 : ((h.length : Int) != N) = true := by simpa using hn0
    clear e e2 e3 hR hc hl hN hI hn0
    go_enter Tryz.func17, Tryz.ntmps17
    go_wp2_with (first
     | ((with_reducible apply ldM_P); exact rfl; exact rfl; exact hB; exact rfl)
     | (go_at_call 33; (with_reducible refine (HR.out _ hU).mono ?_); rintro r w1 ⟨rfl, hu1⟩; replace hQ := hQ.up hu1; replace hB := hB.up hu1; have hc0 := hB.cell 0 rfl)
     | ((with_reducible apply stM_P); exact rfl; exact rfl; exact hQ; exact rfl; exact rfl; exact two2 _ _ _ _ _))
    exact bodyPost_ret (resMs (u := .int .i64 23) rfl rfl rfl (hQ.setRow _) rfl) rfl (RSymPost.err 23 (hU.trans hu1) (by omega))
end Go.Proofs.YtahifcannoekhaaGreatDoor
