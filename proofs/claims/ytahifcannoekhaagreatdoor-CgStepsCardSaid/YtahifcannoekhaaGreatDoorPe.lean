import Derived.Test.YtahifcannoekhaaGreatDoorPd
namespace Go.Proofs.YtahifcannoekhaaGreatDoor
open Go Go.RowKit
set_option maxRecDepth 100000
def Vh (w : World) (v : Value) (l : List Int) : Prop :=
 ∃ p cap, v = .slice p l.length cap /\ ∀ i, i < l.length -> ∃ a, p = some a /\ w.cell? (a.add i) = some (.int .i16 (zth l i))
def In16 (l : List Int) : Prop := ∀ i, i < l.length -> -32768 <= zth l i /\ zth l i < 32768
theorem rt_zero : rt 0 [] = true := by decide
theorem rt_of {N : Int} {l l' : List Int} (h : rt N l = true) (hl : l'.length = l.length) (hf : l'.all fit = true) : rt N l' = true := by
 obtain ⟨h1, h2, h3, _⟩ := rt_spec h
 rw [rt_yes ⟨h1, h2, by rw [hl]; exact h3⟩]
 exact hf
theorem di_rt (N : Int) (l : List Int) (x : Int) : rt (diN N l x) (diR N l x) = true := by
 unfold diN diR
 by_cases h : diC N l x = 0
 ·rw [if_pos h, if_pos h]
  unfold diC at h
  cases hr : rt N l with
  | false => rw [hr] at h; simp at h
  | true =>
    rw [hr] at h
    cases hf : (diL N.toNat l x).all fit with
    | false => rw [hf] at h; simp at h
    | true => exact rt_of hr (diL_len _ _ _) hf
 ·rw [if_neg h, if_neg h]; exact rt_zero
theorem ou_rt (N : Int) (l : List Int) (x : Int) (h : List Int) : rt (ouN N l x h) (ouR N l x h) = true := by
 unfold ouN ouR
 by_cases h0 : ouC N l x h = 0
 ·rw [if_pos h0, if_pos h0]
  unfold ouC at h0
  cases hr : rt N l with
  | false => rw [hr] at h0; simp at h0
  | true =>
    rw [hr, Bool.true_and] at h0
    split at h0
    ·cases hf : (ouL N.toNat l x h).all fit with
     | false => rw [hf] at h0; simp at h0
     | true => exact rt_of hr (ouL_len _ _ _ _) hf
    ·simp at h0
 ·rw [if_neg h0, if_neg h0]; exact rt_zero
theorem vw_one (w : World) (a : Int) : Vw (w.alloc (.cells #[.int .i64 a] 2)) (.slice (some ⟨w.heap.size, 0, none⟩) 1 1) [a] := by
 refine ⟨_, 1, rfl, ⟨Nat.le_refl _, fun e => by cases e⟩, fun i hi => ⟨_, rfl, ?_⟩⟩
 rcases i with _ | i
 ·simp [zth, Addr.add]
 ·simp at hi
theorem In64.snoc {l : List Int} (h : In64 l) {z : Int} (hz : I64 z) : In64 (l ++ [z]) := by
 intro i hi
 rcases Nat.lt_or_ge i l.length with h1 | h1
 ·have e : zth (l ++ [z]) i = zth l i := by rw [zth_get hi, List.getElem_append_left h1, <- zth_get h1]
  rw [e]; exact h i h1
 ·have e : zth (l ++ [z]) i = z := by
   rw [zth_get hi, List.getElem_append_right h1]
   simp
  rw [e]; exact hz
def SeatPost (w : World) (r : Ending) (w' : World) : Prop := ∃ z N L, r = .returned z /\ Up w w' /\ SmO w' z N L /\ rt N L = true
def MInv (K b : Nat) (w : World) : Prop := ∃ N s L, Blk w b 24 #[.int .i64 N, s] /\ SmO w (.agg #[.int .i64 N, s]) N L /\ rt N L = true /\ N <= (K : Int)
def SeatFit (K : Nat) (w : World) (r : Ending) (w' : World) : Prop := ∃ z N L, r = .returned z /\ Up w w' /\ SmO w' z N L /\ rt N L = true /\ N <= (K : Int)
set_option maxHeartbeats 8000000 in
theorem seat_fit {v : Value} {hs : List Int} (n d : Nat) {w : World} (_ : n < 256) (_ : d < 65536) (hv : Vh w v hs) (h16 : In16 hs) (h60 : hs.length <= 60) :
   Calls Tryz.prog 6 #[.int .u8 (n : Nat), .int .u16 (d : Nat), v] w (SeatFit (n % 7) w) := by
 obtain ⟨k, hk⟩ : ∃ r, n % 7 = r := ⟨_, rfl⟩
 rw [hk]
 obtain ⟨dd, hdd⟩ : ∃ r, d % 5000 = r := ⟨_, rfl⟩
 have rk : (n : Int).tmod 7 = (k : Nat) := by rw [show (7 : Int) = ((7 : Nat) : Int) from rfl, <- Int.ofNat_tmod, hk]
 have rd : (d : Int).tmod 5000 = (dd : Nat) := by rw [show (5000 : Int) = ((5000 : Nat) : Int) from rfl, <- Int.ofNat_tmod, hdd]
 have lk : k < 7 := by omega
 have ld : dd < 5000 := by omega
 have ek : IntKind.i64.wrap (k : Int) = (k : Nat) := IntWalk.i64_in _ (by omega)
 have ed : IntKind.i64.wrap (dd : Int) = (dd : Nat) := IntWalk.i64_in _ (by omega)
 have Hhv := hid hv
 have H16 := hid h16
 obtain ⟨p, cap, rfl, hc⟩ := hv
 have HC := hid (fun w' (hu : Up w w') (i : Nat) (hi : i < hs.length) => (show ∃ a, p = some a /\ w'.cell? (a.add i) = some (.int .i16 (zth hs i)) from by obtain ⟨a, h1, h2⟩ := hc i hi; exact ⟨a, h1, hu.cellEq h2⟩))
 clear hk hdd hc h16
 obtain ⟨W0, hW0⟩ : ∃ W0, w.alloc (.cells #[.int .i64 0, .slice none 0 0] 24) = W0 := ⟨_, rfl⟩
 have hQ : Blk W0 w.heap.size 24 #[.int .i64 0, .slice none 0 0] := by rw [<- hW0]; exact Blk.new _ _ rfl
 have hU : Up w W0 := by rw [<- hW0]; exact Up.alloc _ _
 go_enter Tryz.func6, Tryz.ntmps6
 go_wp2_with (first
  | (go_at_call 16; (with_reducible refine (rnew_any (k : Int) _).mono ?_); rintro r w1 ⟨z1, rfl, hu1, hs1⟩)
  | (go_at_call 15; (with_reducible refine (rdiag_any (dd : Int) hs1 (by unfold I64; omega)).mono ?_); rintro r w2 ⟨z2, rfl, hu2, hs2⟩; have hrt2 := di_rt (nw k) (zeros (nw k)) dd; obtain ⟨s2, base2, rfl, hO2, hr2⟩ := hs2; obtain ⟨p2, n2, c2, rfl⟩ := OwnI.slice hO2)
  | ((with_reducible apply stM_P); exact rfl; exact rfl; exact Blk.new _ _ rfl; exact rfl; exact rfl; exact two2 _ _ _ _ _))
 obtain ⟨N2, hN2⟩ : ∃ N2, diN (nw k) (zeros (nw k)) dd = N2 := ⟨_, rfl⟩
 obtain ⟨L2, hL2⟩ : ∃ L2, diR (nw k) (zeros (nw k)) dd = L2 := ⟨_, rfl⟩
 obtain ⟨C2, hC2⟩ : ∃ C2, diC (nw k) (zeros (nw k)) dd = C2 := ⟨_, rfl⟩
 rw [hN2, hL2] at hrt2
 rw [hL2] at hO2
 rw [hN2, hL2] at hr2
 rw [hN2, hC2]
 have HN2k := hid (show N2 <= (k : Int) from by rw [<- hN2]; unfold diN nw; split <;> omega)
 clear hN2 hL2 hC2 hs1
 have hbn := Blk.new (w := w2) (b := w2.heap.size) 24 #[.int .i64 0, .slice none 0 0] rfl
 have hsm2 : SmO (w2.alloc (.cells #[.int .i64 0, .slice none 0 0] 24)) (.agg #[.int .i64 N2, .slice p2 n2 c2]) N2 L2 := ⟨_, base2, rfl, OwnI.up (Up.alloc _ _) hO2, hr2⟩
 have hux := hu1.trans hu2
 obtain ⟨b8, hb8⟩ : ∃ b, w2.heap.size = b := ⟨_, rfl⟩
 have hb8l : w.heap.size < b8 := by rw [<- hb8]; exact Nat.lt_of_lt_of_le hQ.lt hux.size
 rw [hb8] at hbn
 refine wp_folded (fun wd => MInv k b8 wd /\ Blk wd w.heap.size 24 #[.int .i64 0, .slice none 0 0] /\ Up w wd) ⟨⟨N2, _, L2, by rw [hb8]; exact hbn.setRow _, by rw [hb8]; exact hsm2.setRow hbn, hrt2, HN2k.out⟩, by rw [hb8]; exact Blk.row_other ((hQ.up hux).old _) _ (by omega), by rw [hb8]; exact below_setRow ((hU.trans hux).trans (Up.alloc _ _)) (by omega) _⟩ (fun w3 hD => ?_)
 obtain ⟨hM, hQ3, hU3⟩ := hD
 rw [hb8]
 clear hbn hsm2 hux hb8 hO2 hr2 hrt2 hu1 hu2 hQ hU hW0 rk rd ed ld
 go_loopg [10] hs.length (fun g ti wr => ∃ i : Nat, i <= 60 /\ hs.length - i <= g /\ ti = .int .i64 (i : Nat) /\ MInv k b8 wr /\ Blk wr w.heap.size 24 #[.int .i64 0, .slice none 0 0] /\ Up w wr)
 case atStart => exact ⟨0, by omega, by omega, rfl, hM, hQ3, hU3⟩
 case round =>
  clear hM hQ3 hU3
  obtain ⟨i, hi, hig, rfl, ⟨N, s, L, hB, hS, hrt, hNk⟩, hQ, hU⟩ := hrel
  have HNk := hid hNk
  clear hNk
  by_cases hbody : i + k <= hs.length /\ 0 < k /\ i < 4 * k
  ·obtain ⟨g1, g2, g3⟩ := hbody
   have d1 : decide ((i : Int) + (k : Int) <= (hs.length : Int)) = true := decide_eq_true (by omega)
   have d2 : decide ((0 : Int) < (k : Int)) = true := decide_eq_true (by omega)
   have d3 : decide ((i : Int) < 4 * (k : Int)) = true := decide_eq_true (by omega)
   go_wp2_with fail
   obtain ⟨wS, rfl⟩ : ∃ x, x = wr := ⟨_, rfl⟩
   go_loopg [11, 12] k (fun g th tj wj => ∃ (j : Nat) (H : List Int), j <= k /\ k - j <= g /\ tj = .int .i64 (j : Nat) /\ OwnI wj wS.heap.size th H /\ H.length = j /\ In64 H /\ Up wS wj)
   case atStart => exact ⟨0, [], by omega, by omega, rfl, OwnI.nil _ _, rfl, fun i hi => absurd hi (Nat.not_lt_zero _), Up.refl _⟩
   case round =>
    obtain ⟨j, H, hj, hjg, rfl, hO, hH, hH64, hu⟩ := hrel
    have hsz := hu.size
    have HH := hid hH
    have HH64 := hid hH64
    clear hH hH64
    by_cases hlt : j < k
    ·have hij : i + j < hs.length := by omega
     obtain ⟨a1, rfl, hc1⟩ := HC.out _ (hU.trans hu) (i + j) hij
     obtain ⟨q, hq⟩ : ∃ q, (zth hs (i + j)).tmod 200 = q := ⟨_, rfl⟩
     have hz := H16.out (i + j) hij
     have hq1 : -200 < q /\ q < 200 := by rw [<- hq]; have := Int.tmod_lt_of_pos (zth hs (i + j)) (show (0 : Int) < 200 by decide); have := Int.lt_tmod_of_pos (zth hs (i + j)) (show (0 : Int) < 200 by decide); omega
     have eq1 : IntKind.i64.wrap q = q := IntWalk.i64_in _ (by omega)
     have hT : ((i : Int) + (j : Int)).toNat = i + j := by omega
     have hT0 : (0 : Int) <= (i : Int) + (j : Int) := by omega
     have HQ1 := hid hq1
     generalize zth hs (i + j) = zz at *
     clear hq1
     go_wp2_with (first
      | ((with_reducible apply appV); exact rfl; exact rfl; exact OwnI.up (Up.alloc _ _) hO; exact vw_one _ _; (focus (simp; omega)); (focus (rw [HH.out]; omega)); (focus (simp; done)); rintro v' w' h1 h2; have hu9 : Up wS w' := Below.trans (hu.trans (Up.alloc _ _)) h2))
     go_roundg (k - (j + 1))
     case measure => omega
     case rel => exact ⟨j + 1, H ++ [q], by omega, Nat.le_refl _, rfl, h1, by rw [List.length_append, HH.out]; rfl, In64.snoc HH64.out (by have := HQ1.out; unfold I64; omega), hu9⟩
    ·obtain rfl : j = k := by omega
     obtain ⟨r3, hr3⟩ : ∃ r, i % 3 = r := ⟨_, rfl⟩
     have er3 : (i : Int).tmod 3 = (r3 : Nat) := by rw [show (3 : Int) = ((3 : Nat) : Int) from rfl, <- Int.ofNat_tmod, hr3]
     have lr3 : r3 < 3 := by omega
     obtain ⟨x3, hx3⟩ : ∃ x : Int, 1 + (r3 : Int) = x := ⟨_, rfl⟩
     have HX3 : Hid (I64 x3) := hid (by unfold I64; omega)
     obtain ⟨ps, ns, cs, rfl⟩ : ∃ p n c, s = .slice p n c := by
      obtain ⟨s', base', e1, e2, _⟩ := hS
      obtain ⟨p', n', c', rfl⟩ := OwnI.slice e2
      injection e1 with e1
      simp at e1
      exact ⟨_, _, _, e1⟩
     have hB9 := hB.up hu
     have hS9 := hS.up hu
     have hQ9 := hQ.up hu
     have hU9 := hU.trans hu
     have HOU := hid (router_any x3 hS9.sm hO.vw HX3.out HH64.out (by rw [HH.out]; omega))
     have HRT := hid (ou_rt N L x3 H)
     clear hr3 hO hB hS hQ hU hu
     obtain ⟨CX, hCX⟩ : ∃ x, ouC N L x3 H = x := ⟨_, rfl⟩
     rw [hCX] at HOU
     obtain ⟨NX, hNX⟩ : ∃ x, ouN N L x3 H = x := ⟨_, rfl⟩
     obtain ⟨LX, hLX⟩ : ∃ x, ouR N L x3 H = x := ⟨_, rfl⟩
     rw [hNX, hLX] at HOU HRT
     have HNX := hid (show NX <= (j : Int) from by rw [<- hNX]; unfold ouN; have := HNk.out; split <;> omega)
     clear hCX hNX hLX
     by_cases hcx : CX = 0
     ·subst hcx
      go_wp2_with (first
       | ((with_reducible apply ldM_P); exact rfl; exact rfl; (first | exact hb13 | exact hB9); exact rfl)
       | (go_at_call 17; (with_reducible refine (HOU.out).mono ?_); rintro r w5 ⟨z5, rfl, hu5, hs5⟩; have hs5' := hs5; obtain ⟨s5, base5, rfl, hO5, hr5⟩ := hs5'; obtain ⟨p5, n5, c5, rfl⟩ := OwnI.slice hO5; have hbn5 := Blk.new (w := w5) (b := w5.heap.size) 24 #[.int .i64 0, .slice none 0 0] rfl; have hb13 := hbn5.setRow #[.int .i64 NX, .slice p5 n5 c5]; have hB5 := Blk.row_other ((hB9.up hu5).old (.cells #[.int .i64 0, .slice none 0 0] 24)) #[.int .i64 NX, .slice p5 n5 c5] (Nat.ne_of_lt (hB9.up hu5).lt); have hQ5 := Blk.row_other ((hQ9.up hu5).old (.cells #[.int .i64 0, .slice none 0 0] 24)) #[.int .i64 NX, .slice p5 n5 c5] (Nat.ne_of_lt (hQ9.up hu5).lt); have hsm5 := SmO.setRow (D := #[.int .i64 NX, .slice p5 n5 c5]) (SmO.up (Up.alloc w5 (.cells #[.int .i64 0, .slice none 0 0] 24)) hs5) hbn5; have hU5 := below_setRow (((hU9.trans hu5).trans (Up.alloc w5 (.cells #[.int .i64 0, .slice none 0 0] 24)))) (hU9.trans hu5).size #[.int .i64 NX, .slice p5 n5 c5])
       | ((with_reducible apply stM_P); exact rfl; exact rfl; (first | exact hbn5 | exact hB5); exact rfl; exact rfl; exact two2 _ _ _ _ _))
      go_roundg (hs.length - (i + j))
      case measure => omega
      case rel => exact ⟨i + j, by omega, Nat.le_refl _, rfl, ⟨NX, _, LX, hB5.setRow _, hsm5.setRow hB5, HRT.out, HNX.out⟩, Blk.row_other hQ5 _ (by omega), below_setRow hU5 (by omega) _⟩
     ·have hcx' : (CX == 0) = false := by simpa using hcx
      go_wp2_with (first
       | ((with_reducible apply ldM_P); exact rfl; exact rfl; exact hB9; exact rfl)
       | (go_at_call 17; (with_reducible refine (HOU.out).mono ?_); rintro r w5 ⟨z5, rfl, hu5, hs5⟩; have hs5' := hs5; obtain ⟨s5, base5, rfl, hO5, hr5⟩ := hs5'; obtain ⟨p5, n5, c5, rfl⟩ := OwnI.slice hO5; have hbn5 := Blk.new (w := w5) (b := w5.heap.size) 24 #[.int .i64 0, .slice none 0 0] rfl; have hB5 := Blk.row_other ((hB9.up hu5).old (.cells #[.int .i64 0, .slice none 0 0] 24)) #[.int .i64 NX, .slice p5 n5 c5] (Nat.ne_of_lt (hB9.up hu5).lt); have hQ5 := Blk.row_other ((hQ9.up hu5).old (.cells #[.int .i64 0, .slice none 0 0] 24)) #[.int .i64 NX, .slice p5 n5 c5] (Nat.ne_of_lt (hQ9.up hu5).lt); have hsm5 := SmO.setRow (D := #[.int .i64 NX, .slice p5 n5 c5]) (SmO.up ((hu5.trans (Up.alloc w5 (.cells #[.int .i64 0, .slice none 0 0] 24)))) hS9) hbn5; have hU5 := below_setRow (((hU9.trans hu5).trans (Up.alloc w5 (.cells #[.int .i64 0, .slice none 0 0] 24)))) (hU9.trans hu5).size #[.int .i64 NX, .slice p5 n5 c5])
       | ((with_reducible apply stM_P); exact rfl; exact rfl; exact hbn5; exact rfl; exact rfl; exact two2 _ _ _ _ _))
      go_roundg (hs.length - (i + j))
      case measure => omega
      case rel => exact ⟨i + j, by omega, Nat.le_refl _, rfl, ⟨N, _, L, hB5, hsm5, hrt, HNk.out⟩, hQ5, hU5⟩
  ·obtain ⟨s', base', e1, e2, e3⟩ := hS
   have e1' := e1
   obtain ⟨ps, ns, cs, rfl⟩ := OwnI.slice e2
   injection e1 with e1
   obtain rfl : s = .slice ps ns cs := by simpa using e1
   have hFO : SmO (wr.setRow w.heap.size #[.int .i64 N, .slice ps ns cs]) (.agg #[.int .i64 N, .slice ps ns cs]) N L := SmO.setRow ⟨_, base', rfl, e2, e3⟩ hQ
   have HFO := hid hFO
   clear e1 e2 e3 e1' hFO
   by_cases c1 : i + k <= hs.length
   ·by_cases c2 : 0 < k
    ·have c3 : ¬ i < 4 * k := fun h => hbody ⟨c1, c2, h⟩
     have d3 : decide ((i : Int) < 4 * (k : Int)) = false := decide_eq_false (by omega)
     clear hbody
     go_wp2_with (first
      | ((with_reducible apply ldM_P); exact rfl; exact rfl; exact hB; exact rfl)
      | ((with_reducible apply stM_P); exact rfl; exact rfl; exact hQ; exact rfl; exact rfl; exact two2 _ _ _ _ _))
     exact bodyPost_ret (resM rfl rfl (hQ.setRow _) rfl) rfl ⟨_, N, L, rfl, below_setRow hU (Nat.le_refl _) _, HFO.out, hrt, HNk.out⟩
    ·clear hbody
     go_wp2_with (first
      | ((with_reducible apply ldM_P); exact rfl; exact rfl; exact hB; exact rfl)
      | ((with_reducible apply stM_P); exact rfl; exact rfl; exact hQ; exact rfl; exact rfl; exact two2 _ _ _ _ _))
     exact bodyPost_ret (resM rfl rfl (hQ.setRow _) rfl) rfl ⟨_, N, L, rfl, below_setRow hU (Nat.le_refl _) _, HFO.out, hrt, HNk.out⟩
   ·clear hbody
    go_wp2_with (first
     | ((with_reducible apply ldM_P); exact rfl; exact rfl; exact hB; exact rfl)
     | ((with_reducible apply stM_P); exact rfl; exact rfl; exact hQ; exact rfl; exact rfl; exact two2 _ _ _ _ _))
    exact bodyPost_ret (resM rfl rfl (hQ.setRow _) rfl) rfl ⟨_, N, L, rfl, below_setRow hU (Nat.le_refl _) _, HFO.out, hrt, HNk.out⟩
theorem seat_any {v : Value} {hs : List Int} (n d : Nat) {w : World} (hn : n < 256) (hd : d < 65536) (hv : Vh w v hs) (h16 : In16 hs) (h60 : hs.length <= 60) :
   Calls Tryz.prog 6 #[.int .u8 (n : Nat), .int .u16 (d : Nat), v] w (SeatPost w) :=
 (seat_fit n d hn hd hv h16 h60).mono fun _ _ ⟨z, N, L, h1, h2, h3, h4, _⟩ => ⟨z, N, L, h1, h2, h3, h4⟩
theorem zth_ext {l m : List Int} (h : l.length = m.length) (h2 : ∀ i, i < l.length -> zth l i = zth m i) : l = m := by
 refine List.ext_getElem h fun i h1 h3 => ?_
 have := h2 i h1
 rwa [zth_get h1, zth_get h3] at this
def vecV (l : List Int) (sm : Bool) (i : Nat) : Int := let v := if i < l.length then zth l i else (i : Int); if sm then v.tmod 1000000 else v
def vecL (l : List Int) (sm : Bool) : Nat -> List Int
 | 0 => []
 | i + 1 => vecL l sm i ++ [vecV l sm i]
theorem vecL_len (l : List Int) (sm : Bool) : ∀ n, (vecL l sm n).length = n := by
 intro n
 induction n with
 | zero => rfl
 | succ n ih => show (vecL l sm n ++ [vecV l sm n]).length = _; rw [List.length_append, ih]; rfl
theorem tmod_bound (v : Int) {m : Int} (hm : 0 < m) : -m < v.tmod m /\ v.tmod m < m := by
 have h1 := Int.tmod_lt_of_pos v hm
 have h2 := Int.neg_tmod v m
 have h3 := Int.tmod_lt_of_pos (-v) hm
 omega
theorem vecV_in {l : List Int} (h : In64 l) (sm : Bool) {i : Nat} (hi : i < 1000000) : I64 (vecV l sm i) := by
 have h0 : I64 (if i < l.length then zth l i else (i : Int)) := by
  split
  ·rename_i h1; exact h i h1
  ·unfold I64; omega
 unfold vecV
 cases sm with
 | true =>
   have := tmod_bound (if i < l.length then zth l i else (i : Int)) (m := 1000000) (by decide)
   simp only [if_true]
   unfold I64; omega
 | false => simpa using h0
theorem vecL_in {l : List Int} (h : In64 l) (sm : Bool) : ∀ n, n <= 1000000 -> In64 (vecL l sm n) := by
 intro n
 induction n with
 | zero => intro _ i hi; exact absurd hi (Nat.not_lt_zero _)
 | succ n ih => intro hn; exact (ih (by omega)).snoc (vecV_in h sm (by omega))
set_option maxHeartbeats 8000000 in
theorem vec_any {s : Value} {p : Option Addr} {nn cc : Nat} {vl : Value} {l : List Int} (n : Nat) (sm : Bool) {w : World} (hs : s = .slice p nn cc) (hn : n <= 8) (hl : Vw w vl l) (hI : In64 l) (_ : l.length <= 60) :
   Calls Tryz.prog 7 #[.agg #[.int .i64 (n : Nat), s], vl, .bool sm] w fun r w' => ∃ z b, r = .returned z /\ Up w w' /\ w.heap.size <= b /\ OwnI w' b z (vecL l sm n) := by
 subst hs
 have HV := hid hl
 obtain ⟨q, cq, rfl, -, hcq⟩ := hl
 have HB := hid (Blk.new (w := w) (b := w.heap.size) 24 #[.int .i64 (n : Nat), .slice p nn cc] rfl)
 have HC := hid (fun w' (hu : Up w w') i (hi : i < l.length) => show ∃ ad, q = some ad /\ w'.cell? (ad.add i) = some (.int .i64 (zth l i)) from by obtain ⟨a, h1, h2⟩ := hcq i hi; exact ⟨a, h1, hu.cellEq h2⟩)
 have HX := hid (Up.alloc w (.cells #[.int .i64 (n : Nat), .slice p nn cc] 24))
 clear hcq
 go_enter Tryz.func7, Tryz.ntmps7
 go_wp2_with fail
 obtain ⟨wS, hwS⟩ : ∃ x, w.alloc (.cells #[.int .i64 (n : Nat), .slice p nn cc] 24) = x := ⟨_, rfl⟩
 rw [hwS] at HB HX ⊢
 clear hwS
 go_loopg [7, 8] n (fun g tz ti wr => ∃ i : Nat, i <= n /\ n - i <= g /\ ti = .int .i64 (i : Nat) /\ OwnI wr wS.heap.size tz (vecL l sm i) /\ Up wS wr)
 case atStart => exact ⟨0, Nat.zero_le _, by omega, rfl, OwnI.nil _ _, Up.refl _⟩
 case round =>
  obtain ⟨i, hi, hig, rfl, hO, hu⟩ := hrel
  have hBr := HB.out.up hu
  have hBr0 := hBr.cell 0 rfl
  have hsz := hu.size
  by_cases hlt : i < n
  ·have eV : vecL l sm (i + 1) = vecL l sm i ++ [vecV l sm i] := rfl
   have HE := hid eV
   have HL : Hid ((vecL l sm i).length <= 8) := hid (by rw [vecL_len]; omega)
   have HI9 := hid (vecV_in hI sm (i := i) (by omega))
   clear eV
   by_cases hil : i < l.length
   ·obtain ⟨ad, rfl, hcx⟩ := HC.out _ (HX.out.trans hu) i hil
    have dil : decide ((i : Int) < (l.length : Int)) = true := decide_eq_true (by omega)
    have hv : vecV l sm i = if sm then (zth l i).tmod 1000000 else zth l i := by unfold vecV; rw [if_pos hil]
    generalize zth l i = z at *
    cases sm with
    | true =>
      rw [if_pos rfl] at hv
      rw [hv] at HE HI9
      clear hv
      go_wp2_with (first
       | ((with_reducible apply appV); exact rfl; exact rfl; exact OwnI.up (Up.alloc _ _) hO; exact vw_one _ _; (focus (simp; omega)); (focus (have := HL.out; omega)); (focus (simp; done)); rintro v' w' h1 h2; have hu9 : Up wS w' := Below.trans (hu.trans (Up.alloc _ _)) h2))
      go_roundg (n - (i + 1))
      case measure => omega
      case rel => exact ⟨i + 1, by omega, Nat.le_refl _, rfl, by rw [HE.out]; exact h1, hu9⟩
    | false =>
      rw [if_neg (by decide)] at hv
      rw [hv] at HE HI9
      clear hv
      go_wp2_with (first
       | ((with_reducible apply appV); exact rfl; exact rfl; exact OwnI.up (Up.alloc _ _) hO; exact vw_one _ _; (focus (simp; omega)); (focus (have := HL.out; omega)); (focus (simp; done)); rintro v' w' h1 h2; have hu9 : Up wS w' := Below.trans (hu.trans (Up.alloc _ _)) h2))
      go_roundg (n - (i + 1))
      case measure => omega
      case rel => exact ⟨i + 1, by omega, Nat.le_refl _, rfl, by rw [HE.out]; exact h1, hu9⟩
   ·have dil : decide ((i : Int) < (l.length : Int)) = false := decide_eq_false (by omega)
    have hv : vecV l sm i = if sm then (i : Int).tmod 1000000 else (i : Int) := by unfold vecV; rw [if_neg hil]
    cases sm with
    | true =>
      rw [if_pos rfl] at hv
      rw [hv] at HE HI9
      clear hv
      go_wp2_with (first
       | ((with_reducible apply appV); exact rfl; exact rfl; exact OwnI.up (Up.alloc _ _) hO; exact vw_one _ _; (focus (simp; omega)); (focus (have := HL.out; omega)); (focus (simp; done)); rintro v' w' h1 h2; have hu9 : Up wS w' := Below.trans (hu.trans (Up.alloc _ _)) h2))
      go_roundg (n - (i + 1))
      case measure => omega
      case rel => exact ⟨i + 1, by omega, Nat.le_refl _, rfl, by rw [HE.out]; exact h1, hu9⟩
    | false =>
      rw [if_neg (by decide)] at hv
      rw [hv] at HE HI9
      clear hv
      go_wp2_with (first
       | ((with_reducible apply appV); exact rfl; exact rfl; exact OwnI.up (Up.alloc _ _) hO; exact vw_one _ _; (focus (simp; omega)); (focus (have := HL.out; omega)); (focus (simp; done)); rintro v' w' h1 h2; have hu9 : Up wS w' := Below.trans (hu.trans (Up.alloc _ _)) h2))
      go_roundg (n - (i + 1))
      case measure => omega
      case rel => exact ⟨i + 1, by omega, Nat.le_refl _, rfl, by rw [HE.out]; exact h1, hu9⟩
  ·obtain rfl : i = n := by omega
   go_wp2_with fail
   go_ret
   exact ⟨_, _, rfl, HX.out.trans hu, HX.out.size, hO⟩
def prd (v : Nat -> Int) : Nat -> Int
 | 0 => 1
 | k + 1 => prd v k * v k
def dgA (v : Nat -> Int) (k : Nat) : Nat -> Nat -> Int := fun i j => if i = j /\ i < k then v i else 0
theorem prd_head (v : Nat -> Int) : ∀ n, prd v (n + 1) = v 0 * prd (fun i => v (i + 1)) n := by
 intro n
 induction n with
 | zero => show 1 * v 0 = v 0 * 1; omega
 | succ n ih =>
   show prd v (n + 1) * v (n + 1) = v 0 * (prd (fun i => v (i + 1)) n * v (n + 1))
   rw [ih, Int.mul_assoc]
theorem det_dg : ∀ (n : Nat) (v : Nat -> Int), det n (dgA v n) = prd v n := by
 intro n
 induction n with
 | zero => intro v; rfl
 | succ n ih =>
   intro v
   rw [prd_head, <- ih]
   show sumN (n + 1) (fun i => sg i * dgA v (n + 1) i 0 * det n fun r c => dgA v (n + 1) (sk i r) (c + 1)) = _
   rw [sumN_one (p := 0) (by omega) fun i hi h0 => by
    have : dgA v (n + 1) i 0 = 0 := by unfold dgA; rw [if_neg (by omega)]
    rw [this, Int.mul_zero, Int.zero_mul]]
   have e1 : dgA v (n + 1) 0 0 = v 0 := by unfold dgA; rw [if_pos ⟨rfl, by omega⟩]
   have e2 : sg 0 = 1 := rfl
   rw [e1, e2, Int.one_mul]
   refine congrArg _ (det_congr fun r c hr hc => ?_)
   unfold dgA sk
   rw [if_neg (Nat.not_lt_zero r)]
   by_cases h : r = c
   ·rw [if_pos ⟨by omega, by omega⟩, if_pos ⟨h, hr⟩]
   ·rw [if_neg (by omega), if_neg (by omega)]
def Dg (n : Nat) (v : Nat -> Int) (k : Nat) (l : List Int) : Prop := rt n l = true /\ ∀ i j, i < n -> j < n -> ent n l i j = dgA v k i j
theorem Dg.det {n : Nat} {v : Nat -> Int} {l : List Int} (h : Dg n v n l) : detV n l = prd v n /\ detC n l = 0 := by
 refine ⟨?_, by unfold detC; rw [h.1]; rfl⟩
 unfold detV
 rw [h.1, if_pos rfl, <- det_dg]
 exact det_congr fun i j hi hj => (AM_at hi hj).trans (h.2 i j hi hj)
theorem det_zrow {n p : Nat} {A : Nat -> Nat -> Int} (hp : p < n) (h : ∀ c, A p c = 0) : det n A = 0 := by
 have h1 := det_lin hp A 0 0 (A p) (A p)
 have e : (fun c => 0 * A p c + 0 * A p c) = A p := by funext c; rw [h c]; rfl
 rw [e, updR_self] at h1
 omega
def e0 : Nat -> Int := fun c => if c = 0 then 1 else 0
theorem det_e0 (n : Nat) (A : Nat -> Nat -> Int) : det (n + 1) (updR A 0 e0) = det n fun r c => A (r + 1) (c + 1) := by
 show sumN (n + 1) (fun i => sg i * updR A 0 e0 i 0 * det n fun r c => updR A 0 e0 (sk i r) (c + 1)) = _
 rw [sumN_one (p := 0) (by omega) fun i hi h0 => by
  rw [det_zrow (p := 0) (by omega) fun c => by
   have : sk i 0 = 0 := by unfold sk; rw [if_pos (by omega)]
   rw [this, updR_at]; rfl]
  rw [Int.mul_zero]]
 rw [updR_at]
 show (1 : Int) * 1 * _ = _
 rw [Int.one_mul, Int.one_mul]
 refine det_congr fun r c _ _ => ?_
 have : sk 0 r = r + 1 := by unfold sk; rw [if_neg (Nat.not_lt_zero r)]
 rw [this]
 unfold updR
 rw [if_neg (by omega)]
def one0 (A : Nat -> Nat -> Int) : Nat -> Nat -> Int := updR A 0 fun c => 1 * A 0 c + (1 - A 0 0) * e0 c
theorem one0_det (n : Nat) (A : Nat -> Nat -> Int) : det (n + 1) (one0 A) = det (n + 1) A + (1 - A 0 0) * det n fun r c => A (r + 1) (c + 1) := by
 unfold one0
 rw [det_lin (by omega), updR_self, det_e0, Int.one_mul]
theorem one0_at (A : Nat -> Nat -> Int) (i j : Nat) : one0 A i j = if i = 0 /\ j = 0 then 1 else A i j := by
 unfold one0 updR e0
 by_cases hi : i = 0
 ·subst hi
  by_cases hj : j = 0
  ·subst hj; simp; omega
  ·simp [hj]
 ·simp [hi]
theorem det_turn : ∀ (n : Nat) (A : Nat -> Nat -> Int), (det n fun i j => A j i) = det n A := by
 intro n
 induction n with
 | zero => intro A; rfl
 | succ n ih =>
   intro A
   have h1 := one0_det n A
   have h2 := one0_det n fun i j => A j i
   have h3 := ih fun r c => A (r + 1) (c + 1)
   have h4 := det_chio n (one0 A)
   have h5 := det_chio n (one0 fun i j => A j i)
   rw [show one0 A 0 0 = 1 from by rw [one0_at]; rfl, Int.one_pow, Int.one_mul, Int.one_mul] at h4
   rw [show one0 (fun i j => A j i) 0 0 = 1 from by rw [one0_at]; rfl, Int.one_pow, Int.one_mul, Int.one_mul] at h5
   have h6 : det n (chio (one0 fun i j => A j i)) = det n (chio (one0 A)) := by
    rw [<- ih (chio (one0 A))]
    refine det_congr fun i j _ _ => ?_
    have hc : ∀ i j, one0 (fun i j => A j i) i j = one0 A j i := fun i j => by
     rw [one0_at, one0_at]
     by_cases h : i = 0 /\ j = 0
     ·rw [if_pos h, if_pos ⟨h.2, h.1⟩]
     ·rw [if_neg h, if_neg fun x => h ⟨x.2, x.1⟩]
    unfold chio
    rw [hc, hc, hc, hc, Int.mul_comm (one0 A 0 (i + 1))]
   have h7 : (det n fun r c => (fun i j => A j i) (r + 1) (c + 1)) = det n fun r c => A (r + 1) (c + 1) := h3
   rw [h7] at h2
   show det (n + 1) (fun i j => A j i) = _
   have h8 : (1 - (fun i j => A j i) 0 0) = 1 - A 0 0 := rfl
   rw [h8] at h2
   omega
def prodN : Nat -> (Nat -> Nat) -> Nat
 | 0, _ => 1
 | n + 1, f => f 0 * prodN n fun i => f (i + 1)
theorem det_cols : ∀ {n : Nat} {A : Nat -> Nat -> Int} {m : Nat -> Nat}, (∀ i j, i < n -> j < n -> (A i j).natAbs <= m j) -> (det n A).natAbs <= fct n * prodN n m := by
 intro n
 induction n with
 | zero => intro A m _; simp [det, fct, prodN]
 | succ n ih =>
   intro A m h
   have h1 : (det (n + 1) A).natAbs <= (n + 1) * (m 0 * (fct n * prodN n fun j => m (j + 1))) := sumN_abs fun i hi => by
    have := ih (A := fun r c => A (sk i r) (c + 1)) (m := fun j => m (j + 1)) fun r c hr hc => h _ _ (sk_lt hr) (by omega)
    rw [Int.natAbs_mul, Int.natAbs_mul, show (sg i).natAbs = 1 from by unfold sg; split <;> rfl, Nat.one_mul]
    exact Nat.mul_le_mul (h i 0 hi (by omega)) this
   rw [show fct (n + 1) * prodN (n + 1) m = (n + 1) * (m 0 * (fct n * prodN n fun j => m (j + 1))) from by
    rw [show fct (n + 1) = (n + 1) * fct n from rfl, show prodN (n + 1) m = m 0 * prodN n fun j => m (j + 1) from rfl]; grind]
   exact h1
def cb (n j : Nat) : Nat := if j = n then 72057594037927936 else 1073741824
theorem prod_none : ∀ (r n : Nat) (C : Nat -> Nat), (∀ a, a < r -> C a ≠ n) -> prodN r (fun j => cb n (C j)) = 1073741824 ^ r := by
 intro r
 induction r with
 | zero => intro n C _; rfl
 | succ r ih =>
   intro n C h
   show cb n (C 0) * prodN r (fun j => cb n (C (j + 1))) = _
   rw [ih n (fun j => C (j + 1)) fun a ha => h (a + 1) (by omega)]
   unfold cb
   rw [if_neg (h 0 (by omega)), Nat.pow_succ, Nat.mul_comm]
theorem prod_one : ∀ (r n : Nat) (C : Nat -> Nat), (∀ a b, a < r + 1 -> b < r + 1 -> C a = n -> C b = n -> a = b) -> prodN (r + 1) (fun j => cb n (C j)) <= 1073741824 ^ r * 72057594037927936 := by
 intro r
 induction r with
 | zero =>
   intro n C _
   show cb n (C 0) * 1 <= _
   unfold cb
   rw [Nat.pow_zero, Nat.one_mul, Nat.mul_one]
   split <;> omega
 | succ r ih =>
   intro n C h
   show cb n (C 0) * prodN (r + 1) (fun j => cb n (C (j + 1))) <= _
   by_cases e : C 0 = n
   ·rw [prod_none (r + 1) n (fun j => C (j + 1)) fun a ha h1 => absurd (h 0 (a + 1) (by omega) (by omega) e h1) (by omega)]
    unfold cb
    rw [if_pos e, Nat.mul_comm]
    exact Nat.le_refl _
   ·have h1 := ih n (fun j => C (j + 1)) fun a b ha hb h1 h2 => by have := h (a + 1) (b + 1) (by omega) (by omega) h1 h2; omega
    have h2 : cb n (C 0) = 1073741824 := by unfold cb; rw [if_neg e]
    rw [h2, Nat.pow_succ, Nat.mul_comm (1073741824 ^ r), Nat.mul_assoc]
    exact Nat.mul_le_mul_left _ h1
def AV (n : Nat) (l v : List Int) : Nat -> Nat -> Int := fun i j =>
 if i < n then (if j < n then ent n l i j else if j = n then zth v i else 0) else if i = j + n then -1 else 0
theorem AV_abs {n : Nat} {l v : List Int} (hR : rt n l = true) (hv : ∀ i, (zth v i).natAbs <= 72057594037927936) (i j : Nat) : (AV n l v i j).natAbs <= cb n j := by
 unfold AV cb
 by_cases h : i < n
 ·rw [if_pos h]
  by_cases h2 : j < n
  ·rw [if_pos h2, if_neg (by omega)]
   have := AM_abs hR i j
   rw [AM_at h h2] at this
   exact this
  ·rw [if_neg h2]
   by_cases h3 : j = n
   ·rw [if_pos h3, if_pos h3]; exact hv i
   ·rw [if_neg h3]; simp
 ·rw [if_neg h]
  split <;> split <;> simp
def bv (k r : Nat) : Nat := fct (r + k + 1) * (1073741824 ^ (r + k) * 72057594037927936)
theorem bv_succ (k r : Nat) : bv (k + 1) r = bv k (r + 1) := by
 unfold bv
 rw [show r + (k + 1) = r + 1 + k by omega]
theorem bv_bp {k : Nat} (h : k <= 8) : bv k 0 < bp 5 := by
 rw [bp5_is]
 rcases k with _ | _ | _ | _ | _ | _ | _ | _ | _ | k
 ·decide +kernel
 ·decide +kernel
 ·decide +kernel
 ·decide +kernel
 ·decide +kernel
 ·decide +kernel
 ·decide +kernel
 ·decide +kernel
 ·decide +kernel
 ·omega
theorem Good.startV {n : Nat} {l v : List Int} (hR : rt n l = true) (hv : ∀ i, (zth v i).natAbs <= 72057594037927936) : Good 1 (bv 0) (AV n l v) := fun r R C => by
 refine ⟨_, by rw [Int.one_pow, Int.one_mul], ?_⟩
 by_cases h : ∃ a b, a < r + 1 /\ b < r + 1 /\ a ≠ b /\ C a = n /\ C b = n
 ·obtain ⟨a, b, ha, hb, hab, h1, h2⟩ := h
  have e := det_turn (r + 1) (fun i j => AV n l v (R i) (C j))
  rw [<- e, det_twice hab ha hb fun c => by show AV n l v (R c) (C a) = AV n l v (R c) (C b); rw [h1, h2]]
  exact Nat.zero_le _
 ·refine Nat.le_trans (det_cols (m := fun j => cb n (C j)) fun i j _ _ => AV_abs hR hv _ _) ?_
  unfold bv
  exact Nat.mul_le_mul_left _ (prod_one r n C fun a b ha hb h1 h2 => Classical.byContradiction fun hab => h ⟨a, b, ha, hb, hab, h1, h2⟩)
def SV (q : Int) (k : Nat) (M : Nat -> Nat -> Int) : Prop := Good q (bv k) M /\ 0 < q /\ q.natAbs < bp 5
theorem SV.entry {q : Int} {k : Nat} {M : Nat -> Nat -> Int} (h : SV q k M) (hk : k <= 8) (i j : Nat) : (M i j).natAbs < bp 5 := Nat.lt_of_le_of_lt (h.1.entry i j) (bv_bp hk)
theorem SV.next {q : Int} {k : Nat} {M : Nat -> Nat -> Int} (h : SV q k M) (hk : k <= 8) (ha : 0 < M 0 0) : SV (M 0 0) (k + 1) (nxt q M) :=
 ⟨(h.1.next (Int.ne_of_gt h.2.1) (Int.ne_of_gt ha)).mono fun r => by rw [bv_succ]; exact Nat.le_refl _, ha, h.entry hk 0 0⟩
theorem SV.start {n : Nat} {l v : List Int} (hR : rt n l = true) (hv : ∀ i, (zth v i).natAbs <= 72057594037927936) : SV 1 0 (AV n l v) :=
 ⟨Good.startV hR hv, by decide, (St.start hR).2.2⟩
def gs (A : Nat -> Nat -> Int) : Nat -> Int × (Nat -> Nat -> Int)
 | 0 => (1, A)
 | k + 1 => ((gs A k).2 0 0, nxt (gs A k).1 (gs A k).2)
theorem gs_mins {n : Nat} {A : Nat -> Nat -> Int} (h : ∀ x ∈ mins n 1 A, 0 < x) : ∀ k s, k + s = n -> ∀ x ∈ mins s (gs A k).1 (gs A k).2, 0 < x := by
 intro k
 induction k with
 | zero => intro s hs; obtain rfl : s = n := (by omega); exact h
 | succ k ih =>
   intro s hs
   have h1 := ih (s + 1) (by omega)
   rw [show mins (s + 1) (gs A k).1 (gs A k).2 = (gs A k).2 0 0 :: (if 0 < (gs A k).2 0 0 then mins s ((gs A k).2 0 0) (nxt (gs A k).1 (gs A k).2) else []) from rfl] at h1
   have h2 := h1 _ (List.mem_cons_self ..)
   rw [if_pos h2] at h1
   exact fun x hx => h1 x (List.mem_cons_of_mem _ hx)
theorem gs_pos {n : Nat} {A : Nat -> Nat -> Int} (h : ∀ x ∈ mins n 1 A, 0 < x) {k : Nat} (hk : k < n) : 0 < (gs A k).2 0 0 := by
 have h1 := gs_mins h k (n - k) (by omega)
 rw [show n - k = (n - k - 1) + 1 by omega] at h1
 exact h1 _ (List.mem_cons_self ..)
structure Def (n : Nat) (l v : List Int) : Prop where
 right : rt n l = true
 pos : ∀ x ∈ mins n 1 (AM n l), 0 < x
 vec : ∀ i, (zth v i).natAbs <= 72057594037927936
theorem AV_AM (n : Nat) (l v : List Int) : ∀ i j, i < n -> j < n -> AV n l v i j = AM n l i j := fun i j hi hj => by
 unfold AV; rw [if_pos hi, if_pos hj, AM_at hi hj]
theorem Def.pos' {n : Nat} {l v : List Int} (h : Def n l v) : ∀ x ∈ mins n 1 (AV n l v), 0 < x := by
 rw [mins_congr (AV_AM n l v)]; exact h.pos
theorem Def.n8 {n : Nat} {l v : List Int} (h : Def n l v) : n <= 8 := by have := (rt_spec h.right).2.1; omega
theorem Def.sv {n : Nat} {l v : List Int} (h : Def n l v) : ∀ k, k <= n -> SV (gs (AV n l v) k).1 k (gs (AV n l v) k).2 := by
 intro k
 induction k with
 | zero => intro _; exact SV.start h.right h.vec
 | succ k ih => intro hk; exact (ih (by omega)).next (by have := h.n8; omega) (gs_pos h.pos' (by omega))
theorem Def.low {n : Nat} {l v : List Int} (h : Def n l v) : ∀ k, k <= n -> ∀ t j, (gs (AV n l v) k).2 (n + t) j = if j = t then -(gs (AV n l v) k).1 else 0 := by
 intro k
 induction k with
 | zero =>
   intro _ t j
   show AV n l v (n + t) j = _
   unfold AV
   rw [if_neg (by omega)]
   by_cases e : j = t
   ·rw [if_pos (by omega), if_pos e]; rfl
   ·rw [if_neg (by omega), if_neg e]
 | succ k ih =>
   intro hk t j
   have hs := h.sv k (by omega)
   have h1 := ih (by omega) (t + 1) (j + 1)
   have h2 := ih (by omega) (t + 1) 0
   rw [if_neg (by omega)] at h2
   show nxt _ _ (n + t) j = _
   unfold nxt chio
   rw [show n + t + 1 = n + (t + 1) by omega, h1, h2]
   by_cases e : j = t
   ·rw [if_pos (by omega), if_pos e, Int.zero_mul, Int.sub_zero, Int.mul_neg, Int.neg_tdiv, Int.mul_tdiv_cancel _ (Int.ne_of_gt hs.2.1)]
    rfl
   ·rw [if_neg (by omega), if_neg e, Int.zero_mul, Int.mul_zero, Int.sub_zero, Int.zero_tdiv]
theorem Def.last {n : Nat} {l v : List Int} (h : Def n l v) {k : Nat} (hk : k < n) (j : Nat) : (gs (AV n l v) (k + 1)).2 (n - 1) j = (gs (AV n l v) k).2 0 (j + 1) := by
 have hs := h.sv k (by omega)
 have h1 := h.low k (by omega) 0 (j + 1)
 have h2 := h.low k (by omega) 0 0
 rw [if_neg (by omega)] at h1
 rw [if_pos rfl] at h2
 show nxt _ _ (n - 1) j = _
 unfold nxt chio
 rw [show n - 1 + 1 = n + 0 by omega, h1, h2, Int.mul_zero, Int.zero_sub, Int.neg_mul, Int.neg_neg, Int.mul_tdiv_cancel_left _ (Int.ne_of_gt hs.2.1)]
def slX (n : Nat) (l v : List Int) (i : Nat) : Int := (gs (AV n l v) n).2 i 0
def slD (n : Nat) (l : List Int) : Int := det n (AM n l)
theorem Def.full {n : Nat} {l v : List Int} (h : Def n l v) : ∀ k, k <= n -> Full (gs (AV n l v) k).1 (n - k) (gs (AV n l v) k).2 (slD n l) := by
 intro k
 induction k with
 | zero =>
   intro _
   have := Full.start n (AV n l v)
   rw [det_congr (AV_AM n l v)] at this
   exact this
 | succ k ih =>
   intro hk
   have hs := h.sv k (by omega)
   have hf := ih (by omega)
   rw [show n - k = (n - (k + 1)) + 1 by omega] at hf
   exact Full.next hs.1 (Int.ne_of_gt hs.2.1) (Int.ne_of_gt (gs_pos h.pos' (by omega))) hf
theorem Def.den {n : Nat} {l v : List Int} (h : Def n l v) : (gs (AV n l v) n).1 = slD n l := by
 have hf := h.full n (Nat.le_refl _)
 rw [Nat.sub_self] at hf
 exact hf.zero.symm
theorem Def.den_pos {n : Nat} {l v : List Int} (h : Def n l v) : 0 < slD n l := by
 rw [<- h.den]; exact (h.sv n (Nat.le_refl _)).2.1
theorem Def.den_bp {n : Nat} {l v : List Int} (h : Def n l v) : (slD n l).natAbs < bp 5 := by
 rw [<- h.den]; exact (h.sv n (Nat.le_refl _)).2.2
theorem Def.num_bp {n : Nat} {l v : List Int} (h : Def n l v) (i : Nat) : (slX n l v i).natAbs < bp 5 := (h.sv n (Nat.le_refl _)).entry h.n8 i 0
def Win (n s : Nat) (L : List (List Int)) (M : Nat -> Nat -> Int) : Prop := L.length = n /\ ∀ i, i < n -> (L.getD i []).length = s + 1 /\ ∀ j, j < s + 1 -> zth (L.getD i []) j = M i j
def turn (q : Int) (s : Nat) (L : List (List Int)) : List (List Int) := ((L.drop 1).map fun R => tk (L.getD 0 []) R q (s + 1)) ++ [(L.getD 0 []).drop 1]
theorem Win.next {n s : Nat} {q : Int} {L : List (List Int)} {M : Nat -> Nat -> Int} (h : Win n (s + 1) L M) (hn : 0 < n) (hl : ∀ j, nxt q M (n - 1) j = M 0 (j + 1)) : Win n s (turn q s L) (nxt q M) := by
 have hd : ((L.drop 1).map fun R => tk (L.getD 0 []) R q (s + 1)).length = n - 1 := by rw [List.length_map, List.length_drop, h.1]
 unfold turn
 refine ⟨by rw [List.length_append, hd, List.length_singleton]; omega, fun i hi => ?_⟩
 by_cases e : i < n - 1
 ·have e2 : (((L.drop 1).map fun R => tk (L.getD 0 []) R q (s + 1)) ++ [(L.getD 0 []).drop 1]).getD i [] = tk (L.getD 0 []) (L.getD (i + 1) []) q (s + 1) := by
   rw [List.getD_eq_getElem?_getD, List.getElem?_append_left (by omega), List.getElem?_map, List.getElem?_eq_getElem (by rw [List.length_drop, h.1]; omega), List.getElem_drop]
   have : L.getD (i + 1) [] = L[1 + i]'(by rw [h.1]; omega) := by
    rw [List.getD_eq_getElem?_getD, Nat.add_comm, List.getElem?_eq_getElem (by rw [h.1]; omega)]
    rfl
   rw [this]
   rfl
  rw [e2]
  refine ⟨mk_len _ _, fun j hj => ?_⟩
  unfold tk
  rw [mk_at hj, (h.2 0 hn).2 0 (by omega), (h.2 0 hn).2 (j + 1) (by omega), (h.2 (i + 1) (by omega)).2 0 (by omega), (h.2 (i + 1) (by omega)).2 (j + 1) (by omega)]
  rfl
 ·obtain rfl : i = n - 1 := by omega
  have e2 : (((L.drop 1).map fun R => tk (L.getD 0 []) R q (s + 1)) ++ [(L.getD 0 []).drop 1]).getD (n - 1) [] = (L.getD 0 []).drop 1 := by
   rw [List.getD_eq_getElem?_getD, List.getElem?_append_right (by omega), hd, Nat.sub_self]
   rfl
  rw [e2]
  have h0 := h.2 0 hn
  refine ⟨by rw [List.length_drop, h0.1]; omega, fun j hj => ?_⟩
  rw [zth_drop, h0.2 (j + 1) (by omega), hl]
theorem Win.few {n s k : Nat} {q : Int} {L : List (List Int)} {M : Nat -> Nat -> Int} (h : Win n s L M) (hs : SV q k M) (hk : k <= 8) (i : Nat) : Few (L.getD i []) := fun j => by
 have h0 : (0 : Int).natAbs < bp 5 := bp_pos 5
 by_cases hi : i < n
 ·obtain ⟨h1, h2⟩ := h.2 i hi
  by_cases hj : j < s + 1
  ·rw [h2 j hj]; exact hs.entry hk i j
  ·rw [zth_far (by omega)]; exact h0
 ·rw [List.getD_eq_getElem?_getD, List.getElem?_eq_none (by rw [h.1]; omega)]
  show (zth [] j).natAbs < _
  rw [zth_far (Nat.zero_le _)]; exact h0
def zz (n : Nat) (l v : List Int) (c : Nat) : Int := if c < n then slX n l v c else -(slD n l)
theorem sless_any {a b : Int} {w : World} (ha : InR a) (hb' : InR b) (hab : InR (a - b)) :
   Calls Tryz.prog 95 #[wideV (enc a), wideV (enc b)] w fun r w' => r = .returned (wideV (enc (a - b))) /\ Up w w' := by
 have HA := hid (fun w => sub_z ha hb' w)
 rw [opt_yes hab] at HA
 clear ha hb' hab
 unfold wideV at *
 go_enter Tryz.func95, Tryz.ntmps95
 go_wp2_with (first | ((with_reducible apply ld_rowP undW infoW); exact rfl; exact rfl; exact gRow) | ((with_reducible apply st_rowP infoW); exact rfl; exact rfl; exact gRow) | ((with_reducible apply st_rowZ infoW); exact rfl; exact rfl; exact gRow) | (go_at_call 100; (with_reducible refine (HA.out _).mono ?_); rintro e w1 ⟨rfl, hu⟩; have hs1 := hu.size; simp at hs1))
 exact bodyPost_ret (res1 rfl undW infoW _ _ rfl gRow) rfl ⟨rfl, gUp⟩
theorem stimes_any {a b : Int} {w : World} (ha : InR a) (hb' : InR b) (hab : InR (a * b)) :
   Calls Tryz.prog 143 #[wideV (enc a), wideV (enc b)] w fun r w' => r = .returned (wideV (enc (a * b))) /\ Up w w' := by
 have HA := hid (fun w => mul_z ha hb' w)
 rw [opt_yes hab] at HA
 clear ha hb' hab
 unfold wideV at *
 go_enter Tryz.func143, Tryz.ntmps143
 go_wp2_with (first | ((with_reducible apply ld_rowP undW infoW); exact rfl; exact rfl; exact gRow) | ((with_reducible apply st_rowP infoW); exact rfl; exact rfl; exact gRow) | ((with_reducible apply st_rowZ infoW); exact rfl; exact rfl; exact gRow) | (go_at_call 99; (with_reducible refine (HA.out _).mono ?_); rintro e w1 ⟨rfl, hu⟩; have hs1 := hu.size; simp at hs1))
 exact bodyPost_ret (res1 rfl undW infoW _ _ rfl gRow) rfl ⟨rfl, gUp⟩
theorem samount_any {a : Int} {w : World} (ha : a.natAbs < bp 14) :
   Calls Tryz.prog 94 #[wideV (enc a)] w fun r w' => r = .returned (wideV (enc (a.natAbs : Int))) /\ Up w w' := by
 have hI : InR a := inR_bp (by omega) ha
 have h0 : InR 0 := inR_bp (k := 1) (by omega) (bp_pos 1)
 have hI2 : InR (0 - a) := inR_bp (k := 14) (by omega) (by rw [Int.zero_sub, Int.natAbs_neg]; exact ha)
 have HS := hid (fun w => sign_z hI w)
 have HL := hid (fun w => sless_any (w := w) h0 hI hI2)
 have e0 : cells 16 (limb (enc 0)) = #[.int .u64 0, .int .u64 0, .int .u64 0, .int .u64 0, .int .u64 0, .int .u64 0, .int .u64 0, .int .u64 0, .int .u64 0, .int .u64 0, .int .u64 0, .int .u64 0, .int .u64 0, .int .u64 0, .int .u64 0, .int .u64 0] := by rw [<- zero_limb, zeros16]
 unfold wideV at *
 rw [e0, Int.zero_sub] at HL
 by_cases hn : a < 0
 ·have ds : decide (sgn a < 0) = true := by unfold sgn; rw [if_pos hn]; rfl
  have e : ((a.natAbs : Nat) : Int) = -a := by omega
  rw [e]
  clear ha hI hI2 h0 e hn e0
  go_enter Tryz.func94, Tryz.ntmps94
  go_wp2_with (first
   | ((with_reducible apply ld_rowP undW infoW); exact rfl; exact rfl; exact gRow)
   | ((with_reducible apply st_rowP infoW); exact rfl; exact rfl; exact gRow) | ((with_reducible apply st_rowZ infoW); exact rfl; exact rfl; exact gRow)
   | (go_at_call 70; (with_reducible refine (HS.out _).mono ?_); rintro e w1 ⟨rfl, hu1⟩; have hs1 := hu1.size; (try simp at hs1))
   | (go_at_call 95; (with_reducible refine (HL.out _).mono ?_); rintro e w2 ⟨rfl, hu2⟩; have hs2 := hu2.size))
  exact bodyPost_ret (res1 rfl undW infoW _ _ rfl gRow) rfl ⟨rfl, gUp⟩
 ·have ds : decide (sgn a < 0) = false := by unfold sgn; rw [if_neg hn]; split <;> rfl
  have e : ((a.natAbs : Nat) : Int) = a := by omega
  rw [e]
  clear ha hI hI2 h0 e hn HL e0
  go_enter Tryz.func94, Tryz.ntmps94
  go_wp2_with (first
   | ((with_reducible apply ld_rowP undW infoW); exact rfl; exact rfl; exact gRow)
   | ((with_reducible apply st_rowP infoW); exact rfl; exact rfl; exact gRow) | ((with_reducible apply st_rowZ infoW); exact rfl; exact rfl; exact gRow)
   | (go_at_call 70; (with_reducible refine (HS.out _).mono ?_); rintro e w1 ⟨rfl, hu1⟩; have hs1 := hu1.size; (try simp at hs1)))
  exact bodyPost_ret (res1 rfl undW infoW _ _ rfl gRow) rfl ⟨rfl, gUp⟩
def vfit (x : Int) : Bool := decide (x.natAbs <= 72057594037927936)
theorem sfits_any {x : Int} (h : I64 x) (w : World) :
   Calls Tryz.prog 53 #[.int .i64 x] w fun r w' => r = .returned (.bool (vfit x)) /\ Up w w' := by
 have HA := hid (fun w => fx_amount x h.1 h.2 w)
 by_cases hb : x.natAbs < 9223372036854775808
 ·rw [i64V_yes (by omega)] at HA
  have e : vfit x = decide ((x.natAbs : Int) <= 72057594037927936) := by unfold vfit; rw [decide_eq_decide]; omega
  rw [e]
  generalize ((x.natAbs : Nat) : Int) = a at *
  clear e hb h
  go_enter Tryz.func53, Tryz.ntmps53
  go_wp2_with (first | (go_at_call 86; (with_reducible refine (HA.out _).mono ?_); rintro e w1 ⟨rfl, hu1⟩))
  go_ret
  exact ⟨rfl, hu1⟩
 ·rw [i64V_no (by omega)] at HA
  have e : vfit x = false := by unfold vfit; exact decide_eq_false (by omega)
  rw [e]
  clear e hb h
  go_enter Tryz.func53, Tryz.ntmps53
  go_wp2_with (first | (go_at_call 86; (with_reducible refine (HA.out _).mono ?_); rintro e w1 ⟨rfl, hu1⟩))
  go_ret
  exact ⟨rfl, hu1⟩
def solveB : ByteArray := ⟨#[115, 111, 108, 118, 101]⟩
def ErrsP (B : ByteArray) (w : World) (u : Value) (e : Int) : Prop := (e = 0 /\ u = .nilIface) \/ (e ≠ 0 /\ ∃ t x, u = .iface t x /\ IsEr w u (.flt B (.num e)))
theorem ErrsP.up {B : ByteArray} {w w' : World} (hu : Up w w') {u : Value} {e : Int} (h : ErrsP B w u e) : ErrsP B w' u e := by
 rcases h with h | ⟨h1, t, x, h2, h3⟩
 ·exact .inl h
 ·exact .inr ⟨h1, t, x, h2, h3.up hu⟩
theorem swrong_any (n : Int) (h0 : n ≠ 0) (w : World) :
   Calls Tryz.prog 54 #[.iface 59 (.int .i64 n)] w fun r w' => ∃ u, r = .returned u /\ Up w w' /\ ErrsP solveB w' u n := by
 have HW := hid (fun w => wrap_any (op := { data := #[115, 111, 108, 118, 101] }) (v := .iface 59 (.int .i64 n)) (e := .num n) (w := w) rfl)
 go_enter Tryz.func54, Tryz.ntmps54
 go_wp2_with (first | (go_at_call 55; (with_reducible refine (HW.out _).mono ?_); rintro r w1 ⟨u1, rfl, hu1, h1⟩))
 go_ret
 obtain ⟨t, u, rfl⟩ := h1.iface
 exact ⟨_, rfl, hu1, .inr ⟨h0, t, u, rfl, h1⟩⟩
def Lv (w : World) (v : Value) (Ls : List (List Int)) : Prop :=
 ∃ p cap, v = .slice p Ls.length cap /\ ∀ i, i < Ls.length -> ∃ a s, p = some a /\ w.cell? (a.add i) = some s /\ Vw w s (Ls.getD i [])
def ftC (N : Int) (l : List Int) (Ls : List (List Int)) : Int :=
 if rt N l = true /\ (∀ i, i < Ls.length -> ((Ls.getD i []).length : Int) = N) then (if ∀ i, i < Ls.length -> (Ls.getD i []).all vfit = true then 0 else 21) else 23
set_option maxHeartbeats 8000000 in
theorem fitting_any {v vl : Value} {N : Int} {l : List Int} {Ls : List (List Int)} {w : World} (hm : Sm w v N l) (hL : Lv w vl Ls) (hI : ∀ i, In64 (Ls.getD i [])) (hs : ∀ i, (Ls.getD i []).length <= 1000) (h9 : Ls.length <= 9) :
   Calls Tryz.prog 92 #[v, vl] w fun r w' => ∃ u, r = .returned u /\ Up w w' /\ ErrsP solveB w' u (ftC N l Ls) := by
 have HR := hid (fun w' (hu : Up w w') => sright_any (hm.up hu))
 have HW23 := hid (fun w => swrong_any 23 (by decide) w)
 have HW21 := hid (fun w => swrong_any 21 (by decide) w)
 obtain ⟨s, rfl, ⟨p, cap, rfl, -, -⟩, -, -, -⟩ := hm
 obtain ⟨pL, cL, rfl, hE⟩ := hL
 obtain ⟨W0, hW0⟩ : ∃ W0, w.alloc (.cells #[.int .i64 N, .slice p l.length cap] 24) = W0 := ⟨_, rfl⟩
 have hB : Blk W0 w.heap.size 24 #[.int .i64 N, .slice p l.length cap] := by rw [<- hW0]; exact Blk.new _ _ rfl
 have hU : Up w W0 := by rw [<- hW0]; exact Up.alloc _ _
 cases hR : rt N l with
 | false =>
   have e : ftC N l Ls = 23 := by unfold ftC; rw [if_neg (by rw [hR]; simp)]
   rw [e]
   rw [hR] at HR
   clear e hR hE hI hs h9
   go_enter Tryz.func92, Tryz.ntmps92
   go_wp2_with (first
    | ((with_reducible apply ldM_P); exact rfl; exact rfl; exact hB; exact rfl)
    | (go_at_call 117; (with_reducible refine (HR.out _ hU).mono ?_); rintro r w1 ⟨rfl, hu1⟩)
    | (go_at_call 54; (with_reducible refine (HW23.out _).mono ?_); rintro r w2 ⟨u2, rfl, hu2, h2⟩))
   go_ret
   exact ⟨_, rfl, (hU.trans hu1).trans hu2, h2⟩
 | true =>
   rw [hR] at HR
   have HE := hid (fun w' (hu : Up w w') i (hi : i < Ls.length) => show ∃ a s, pL = some a /\ w'.cell? (a.add i) = some s /\ Vw w' s (Ls.getD i []) from by obtain ⟨a, s, h1, h2, h3⟩ := hE i hi; exact ⟨a, s, h1, hu.cellEq h2, h3.up hu⟩)
   have HI := hid hI
   have HS := hid hs
   have HC : Hid (ftC N l Ls = if (∀ i, i < Ls.length -> ((Ls.getD i []).length : Int) = N) then (if ∀ i, i < Ls.length -> (Ls.getD i []).all vfit = true then 0 else 21) else 23) := hid (by unfold ftC; simp only [hR, true_and])
   have hn9 : Ls.length < 1000000 := by omega
   clear hE hI hs hR
   obtain ⟨C, hC⟩ : ∃ C, ftC N l Ls = C := ⟨_, rfl⟩
   rw [hC] at HC ⊢
   clear hC
   go_enter Tryz.func92, Tryz.ntmps92
   go_wp2_with (first
    | ((with_reducible apply ldM_P); exact rfl; exact rfl; exact hB; exact rfl)
    | (go_at_call 117; (with_reducible refine (HR.out _ hU).mono ?_); rintro r w1 ⟨rfl, hu1⟩; replace hB := hB.up hu1; replace hU := hU.trans hu1))
   clear hu1 hW0
   go_loopg [18] Ls.length (fun g ti wr => ∃ i : Nat, i <= Ls.length /\ Ls.length - i <= g /\ ti = .int .i64 (i : Nat) /\ (∀ j, j < i -> ((Ls.getD j []).length : Int) = N) /\ Up w1 wr)
   case atStart => exact ⟨0, Nat.zero_le _, by omega, rfl, fun j hj => absurd hj (Nat.not_lt_zero _), Up.refl _⟩
   case round =>
    obtain ⟨i, hi, hig, rfl, hz, hu⟩ := hrel
    have HZ := hid hz
    clear hz
    have hc0 := (hB.up hu).cell 0 rfl
    by_cases hlt : i < Ls.length
    ·obtain ⟨ad, s, rfl, hcx, hV⟩ := HE.out _ (hU.trans hu) i hlt
     obtain ⟨ps, cs, rfl, -, -⟩ := hV
     have e1 : IntKind.i64.wrap ((i : Int) + 1) = (i : Int) + 1 := IntWalk.i64_in _ (by omega)
     obtain ⟨n, hn⟩ : ∃ n, (Ls.getD i []).length = n := ⟨_, rfl⟩
     have HN := hid hn
     rw [hn] at hcx
     clear hn
     by_cases hne : (n : Int) = N
     ·have d1 : ((n : Int) != N) = false := by rw [hne]; simp
      have HNe := hid hne
      clear hne
      go_wp2_with fail
      go_roundg (Ls.length - (i + 1))
      case measure => omega
      case rel => exact ⟨i + 1, hlt, Nat.le_refl _, rfl, fun j hj => by
       rcases Nat.lt_succ_iff_lt_or_eq.1 hj with h | h
       ·exact HZ.out j h
       ·rw [h, HN.out]; exact HNe.out, hu⟩
     ·have d1 : ((n : Int) != N) = true := by simpa using hne
      have HC2 : Hid (C = 23) := hid (by rw [HC.out]; exact if_neg fun h => hne (by have := h i hlt; rw [HN.out] at this; exact this))
      clear hne
      go_wp2_with (first
       | (go_at_call 54; (with_reducible refine (HW23.out _).mono ?_); rintro r w2 ⟨u2, rfl, hu2, h2⟩))
      go_ret
      exact ⟨_, rfl, (hU.trans hu).trans hu2, by rw [HC2.out]; exact h2⟩
    ·obtain rfl : i = Ls.length := by omega
     have HC2 : Hid (C = if ∀ i, i < Ls.length -> (Ls.getD i []).all vfit = true then 0 else 21) := hid (by rw [HC.out]; exact if_pos HZ.out)
     go_wp2_with fail
     obtain ⟨wO, hwO⟩ : ∃ y, wr = y := ⟨_, rfl⟩
     rw [hwO] at hu hc0 ⊢
     clear hwO
     go_loopg [32] Ls.length (fun g ti wr => ∃ i : Nat, i <= Ls.length /\ Ls.length - i <= g /\ ti = .int .i64 (i : Nat) /\ (∀ j, j < i -> (Ls.getD j []).all vfit = true) /\ Up wO wr)
     case atStart => exact ⟨0, Nat.zero_le _, by omega, rfl, fun j hj => absurd hj (Nat.not_lt_zero _), Up.refl _⟩
     case round =>
      clear hc0
      obtain ⟨i, hi, hig, rfl, hz, hui⟩ := hrel
      have HY := hid hz
      clear hz
      by_cases hlt : i < Ls.length
      ·obtain ⟨ad, s, rfl, hcx, hV⟩ := HE.out _ ((hU.trans hu).trans hui) i hlt
       have HV := hid hV
       obtain ⟨ps, cs, rfl, -, -⟩ := hV
       have e1 : IntKind.i64.wrap ((i : Int) + 1) = (i : Int) + 1 := IntWalk.i64_in _ (by omega)
       have HIi := hid (HI.out i)
       have hLi := HS.out i
       obtain ⟨x, hx⟩ : ∃ x, Ls.getD i [] = x := ⟨_, rfl⟩
       have HX := hid hx
       rw [hx] at hcx HV HIi hLi
       clear hx
       go_wp2_with fail
       obtain ⟨wI, hwI⟩ : ∃ y, wr = y := ⟨_, rfl⟩
       rw [hwI] at hui hcx HV ⊢
       clear hwI
       go_loopg [38] x.length (fun g tk wr => ∃ k : Nat, k <= x.length /\ x.length - k <= g /\ tk = .int .i64 (k : Nat) /\ (∀ j, j < k -> vfit (zth x j) = true) /\ Up wI wr)
       case atStart => exact ⟨0, Nat.zero_le _, by omega, rfl, fun j hj => absurd hj (Nat.not_lt_zero _), Up.refl _⟩
       case round =>
        clear hcx
        obtain ⟨k, hk, hkg, rfl, hy, huk⟩ := hrel
        have HK := hid hy
        clear hy
        by_cases hkl : k < x.length
        ·obtain ⟨q', cq', xq, _, hcq⟩ := HV.out
         injection xq with y1 y2 y3
         subst y1 y3
         obtain ⟨a2, rfl, hck⟩ := hcq k hkl
         replace hck := huk.cellEq hck
         have HF := hid (fun w => sfits_any (HIi.out k hkl) w)
         have e2 : IntKind.i64.wrap ((k : Int) + 1) = (k : Int) + 1 := IntWalk.i64_in _ (by omega)
         clear hcq y2
         obtain ⟨z, hz⟩ : ∃ z, zth x k = z := ⟨_, rfl⟩
         rw [hz] at hck HF
         have HZz := hid hz
         clear hz
         cases hf : vfit z with
         | true =>
           rw [hf] at HF
           have Hf := hid hf
           clear hf
           go_wp2_with (first
            | (go_at_call 53; (with_reducible refine (HF.out _).mono ?_); rintro r w2 ⟨rfl, hu2⟩))
           go_roundg (x.length - (k + 1))
           case measure => omega
           case rel => exact ⟨k + 1, hkl, Nat.le_refl _, rfl, fun j hj => by
            rcases Nat.lt_succ_iff_lt_or_eq.1 hj with h | h
            ·exact HK.out j h
            ·rw [h, HZz.out]; exact Hf.out, huk.trans hu2⟩
         | false =>
           rw [hf] at HF
           have HC3 : Hid (C = 21) := hid (by
            rw [HC2.out]
            refine if_neg fun h => ?_
            have h1 := List.all_eq_true.1 (h i hlt) (zth x k) (by rw [HX.out, zth_get hkl]; exact List.getElem_mem _)
            rw [HZz.out, hf] at h1
            cases h1)
           clear hf
           go_wp2_with (first
            | (go_at_call 53; (with_reducible refine (HF.out _).mono ?_); rintro r w2 ⟨rfl, hu2⟩)
            | (go_at_call 54; (with_reducible refine (HW21.out _).mono ?_); rintro r w3 ⟨u3, rfl, hu3, h3⟩))
           go_ret
           exact ⟨_, rfl, ((((hU.trans hu).trans hui).trans huk).trans hu2).trans hu3, by rw [HC3.out]; exact h3⟩
        ·obtain rfl : k = x.length := by omega
         have hall : x.all vfit = true := List.all_eq_true.2 fun y hy => by
          obtain ⟨j, hj, rfl⟩ := List.mem_iff_getElem.1 hy
          have := HK.out j hj
          rw [zth_get hj] at this
          exact this
         have HA := hid hall
         clear hall
         go_wp2_with fail
         go_roundg (Ls.length - (i + 1))
         case measure => omega
         case rel => exact ⟨i + 1, hlt, Nat.le_refl _, rfl, fun j hj => by
          rcases Nat.lt_succ_iff_lt_or_eq.1 hj with h | h
          ·exact HY.out j h
          ·rw [h, HX.out]; exact HA.out, hui.trans huk⟩
      ·obtain rfl : i = Ls.length := by omega
       have HC3 : Hid (C = 0) := hid (by rw [HC2.out]; exact if_pos HY.out)
       go_wp2_with fail
       go_ret
       exact ⟨_, rfl, (hU.trans hu).trans hui, .inl ⟨HC3.out, rfl⟩⟩
def slC (N : Int) (l v : List Int) : Int := if ftC N l [v] = 0 then (if dfV N l = true then 0 else 30) else ftC N l [v]
theorem lv_one {w : World} {v : Value} {l : List Int} (h : Vw w v l) : Lv (w.alloc (.cells #[v] 22)) (.slice (some ⟨w.heap.size, 0, none⟩) 1 1) [l] :=
 ⟨_, _, rfl, fun i hi => by
  obtain rfl : i = 0 := by simp at hi; omega
  exact ⟨_, v, rfl, (Blk.new _ _ rfl).cell 0 rfl, h.up (Up.alloc _ _)⟩⟩
set_option maxHeartbeats 8000000 in
theorem solvable_any {v xv : Value} {N : Int} {l x : List Int} {w : World} (hm : Sm w v N l) (hx : Vw w xv x) (hI : In64 x) (hs : x.length <= 1000) :
   Calls Tryz.prog 84 #[v, xv] w fun r w' => ∃ u, r = .returned u /\ Up w w' /\ ErrsP solveB w' u (slC N l x) := by
 have HF := hid (fun w' (hu : Up w w') => fitting_any (hm.up (hu.trans (Up.alloc w' (.cells #[xv] 22)))) (lv_one (hx.up hu)) (fun i => by rcases i with _ | i; exact hI; exact fun j hj => absurd hj (Nat.not_lt_zero _)) (fun i => by rcases i with _ | i; exact hs; exact Nat.zero_le _) (by simp))
 have HD := hid (fun w' (hu : Up w w') => definite_any (hm.up hu))
 have HW30 := hid (fun w => swrong_any 30 (by decide) w)
 obtain ⟨s, rfl, ⟨p, cap, rfl, -, -⟩, -, -, -⟩ := hm
 obtain ⟨px, cx, rfl, -, -⟩ := hx
 obtain ⟨W0, hW0⟩ : ∃ W0, w.alloc (.cells #[.int .i64 N, .slice p l.length cap] 24) = W0 := ⟨_, rfl⟩
 have hB : Blk W0 w.heap.size 24 #[.int .i64 N, .slice p l.length cap] := by rw [<- hW0]; exact Blk.new _ _ rfl
 have hU : Up w W0 := by rw [<- hW0]; exact Up.alloc _ _
 have HFW := hid (HF.out W0 hU)
 have hBa := hB.up (Up.alloc W0 (.cells #[.slice px x.length cx] 22))
 have hUa := hU.trans (Up.alloc W0 (.cells #[.slice px x.length cx] 22))
 obtain ⟨F, hF⟩ : ∃ F, ftC N l [x] = F := ⟨_, rfl⟩
 have hCe : slC N l x = if F = 0 then (if dfV N l = true then 0 else 30) else F := by unfold slC; rw [hF]
 have HC := hid hCe
 rw [hF] at HFW
 obtain ⟨C, hC⟩ : ∃ C, slC N l x = C := ⟨_, rfl⟩
 rw [hC] at HC ⊢
 clear hF hCe hC HF hI hs
 go_enter Tryz.func84, Tryz.ntmps84
 go_upto_region 2 with (first
  | ((with_reducible apply ldM_P); exact rfl; exact rfl; exact hB; exact rfl)
  | (go_at_call 92; (with_reducible refine HFW.out.mono ?_); rintro r w1 ⟨u1, rfl, hu1, h1⟩; have hB1 := hBa.up hu1; have hU1 := hUa.trans hu1))
 rcases h1 with ⟨h0, rfl⟩ | ⟨h0, t, y, rfl, hE⟩
 ·have hc := HC.out
  rw [if_pos h0] at hc
  cases hd : dfV N l with
  | true =>
    rw [hd, if_pos rfl] at hc
    rw [hd] at HD
    have HC2 := hid hc
    clear hc hd h0
    go_wp2_with (first
     | ((with_reducible apply ldM_P); exact rfl; exact rfl; exact hB1; exact rfl)
     | (go_at_call 106; (with_reducible refine (HD.out _ hU1).mono ?_); rintro r w2 ⟨rfl, hu2⟩))
    go_ret
    exact ⟨_, rfl, hU1.trans hu2, .inl ⟨HC2.out, rfl⟩⟩
  | false =>
    rw [hd, if_neg (by decide)] at hc
    rw [hd] at HD
    have HC2 := hid hc
    clear hc hd h0
    go_wp2_with (first
     | ((with_reducible apply ldM_P); exact rfl; exact rfl; exact hB1; exact rfl)
     | (go_at_call 106; (with_reducible refine (HD.out _ hU1).mono ?_); rintro r w2 ⟨rfl, hu2⟩)
     | (go_at_call 54; (with_reducible refine (HW30.out _).mono ?_); rintro r w3 ⟨u3, rfl, hu3, h3⟩))
    go_ret
    exact ⟨_, rfl, (hU1.trans hu2).trans hu3, by rw [HC2.out]; exact h3⟩
 ·have HC2 : Hid (C = F) := hid (by rw [HC.out]; exact if_neg h0)
  have H0 := hid h0
  clear h0
  go_wp2_with fail
  go_ret
  exact ⟨_, rfl, hU1, by rw [HC2.out]; exact .inr ⟨H0.out, t, y, rfl, hE⟩⟩
def Wx (w : World) (v : Value) (l : List Int) : Prop :=
 (l = [] /\ ∃ p c, v = .slice p 0 c) \/ ∃ g o cap C, v = .slice (some ⟨g, o, none⟩) l.length cap /\ l.length <= cap /\ Blk w g 107 C /\ (C.toList.drop o).take (l.length * 16) = wcs l
theorem Wx.up {w w' : World} (hu : Up w w') {v : Value} {l : List Int} (h : Wx w v l) : Wx w' v l := by
 rcases h with h | ⟨g, o, cap, C, h1, h2, h3, h4⟩
 ·exact .inl h
 ·exact .inr ⟨g, o, cap, C, h1, h2, h3.up hu, h4⟩
theorem Wv.wx {w : World} {v : Value} {l : List Int} (h : Wv w v l) : Wx w v l := by
 rcases h with h | ⟨g, cap, C, h1, h2, h3, h4⟩
 ·exact .inl h
 ·exact .inr ⟨g, 0, cap, C, h1, h2, h3, by rw [List.drop_zero]; exact h4⟩
theorem OwnW.wx {w : World} {base : Nat} {v : Value} {l : List Int} (h : OwnW w base v l) : Wx w v l := h.wv.wx
theorem Wx.slice {w : World} {v : Value} {l : List Int} (h : Wx w v l) : ∃ p c, v = .slice p l.length c := by
 rcases h with ⟨rfl, p, c, rfl⟩ | ⟨g, o, cap, C, rfl, _⟩
 ·exact ⟨p, c, rfl⟩
 ·exact ⟨_, cap, rfl⟩
theorem Wx.open {w : World} {v : Value} {l : List Int} (h : Wx w v l) (h0 : 0 < l.length) :
   ∃ g o cap C, v = .slice (some ⟨g, o, none⟩) l.length cap /\ l.length <= cap /\ Blk w g 107 C /\ (C.toList.drop o).take (l.length * 16) = wcs l := by
 rcases h with ⟨rfl, _⟩ | h
 ·exact absurd h0 (by decide)
 ·exact h
theorem wx_range {w : World} {g o : Nat} {C : Array Value} {l : List Int} (hB : Blk w g 107 C) (ht : (C.toList.drop o).take (l.length * 16) = wcs l) {i : Nat} (hi : i < l.length) : w.rangeAt g (o + i * 16) (wc (zth l i)) := by
 intro j v hv
 have hj : j < 16 := by have := (List.getElem?_eq_some_iff.1 hv).1; rw [wc_len] at this; exact this
 refine hB.cell _ ?_
 have h1 : ((C.toList.drop o).take (l.length * 16))[i * 16 + j]? = some v := by rw [ht, wcs_mid hi hj]; exact hv
 rw [List.getElem?_take_of_lt (by omega), List.getElem?_drop] at h1
 rw [<- Array.getElem?_toList, Nat.add_assoc]
 exact h1
theorem wx_drop1 {w : World} {g o : Nat} {C : Array Value} {l : List Int} {n : Nat} (hB : Blk w g 107 C) (ht : (C.toList.drop o).take (l.length * 16) = wcs l) (hl : l.length = n + 1) : w.rangeAt g (o + 16) (wcs (l.drop 1)) := by
 intro j v hv
 have hj : j < n * 16 := by have := (List.getElem?_eq_some_iff.1 hv).1; rw [wcs_len, List.length_drop, hl] at this; omega
 refine hB.cell _ ?_
 rw [<- wcs_drop (i := 1) (by omega), List.getElem?_drop, <- ht, List.getElem?_take_of_lt (by omega), List.getElem?_drop] at hv
 rw [<- Array.getElem?_toList, Nat.add_assoc, <- Nat.one_mul 16]
 exact hv
theorem wx_tail {w : World} {g o n cap : Nat} {C : Array Value} {l : List Int} (hl : l.length = n + 1) (hc : n + 1 <= cap) (hB : Blk w g 107 C) (ht : (C.toList.drop o).take (l.length * 16) = wcs l) : Wx w (.slice (some ⟨g, o + 16, none⟩) n (cap - 1)) (l.drop 1) := by
 have hn : (l.drop 1).length = n := by rw [List.length_drop]; omega
 refine .inr ⟨g, o + 16, cap - 1, C, by rw [hn], by rw [hn]; omega, hB, ?_⟩
 rw [hn, <- wcs_drop (i := 1) (by omega), <- ht, Nat.one_mul, List.drop_take, hl, List.drop_drop, show (n + 1) * 16 - 16 = n * 16 by omega]
def Rx (w : World) (v : Value) (L : List (List Int)) : Prop :=
 (L = [] /\ ∃ p c, v = .slice p 0 c) \/ ∃ g o cap C, v = .slice (some ⟨g, o, none⟩) L.length cap /\ L.length <= cap /\ Blk w g 124 C /\ ∀ i, i < L.length -> ∃ s, C[o + i]? = some s /\ Wx w s (L.getD i [])
theorem Rx.up {w w' : World} (hu : Up w w') {v : Value} {L : List (List Int)} (h : Rx w v L) : Rx w' v L := by
 rcases h with h | ⟨g, o, cap, C, h1, h2, h3, h4⟩
 ·exact .inl h
 ·exact .inr ⟨g, o, cap, C, h1, h2, h3.up hu, fun i hi => by obtain ⟨s, h5, h6⟩ := h4 i hi; exact ⟨s, h5, h6.up hu⟩⟩
theorem Rx.slice {w : World} {v : Value} {L : List (List Int)} (h : Rx w v L) : ∃ p c, v = .slice p L.length c := by
 rcases h with ⟨rfl, p, c, rfl⟩ | ⟨g, o, cap, C, rfl, _⟩
 ·exact ⟨p, c, rfl⟩
 ·exact ⟨_, cap, rfl⟩
theorem Rx.open {w : World} {v : Value} {L : List (List Int)} (h : Rx w v L) (h0 : 0 < L.length) :
   ∃ g o cap C, v = .slice (some ⟨g, o, none⟩) L.length cap /\ L.length <= cap /\ Blk w g 124 C /\ ∀ i, i < L.length -> ∃ s, C[o + i]? = some s /\ Wx w s (L.getD i []) := by
 rcases h with ⟨rfl, _⟩ | h
 ·exact absurd h0 (by decide)
 ·exact h
def Wbx (w : World) (nb : Nat) (v : Value) (l : List Int) : Prop := Wx w v l /\ ∀ a n c, v = .slice (some a) n c -> 0 < n -> a.block ≠ nb
theorem Wbx.up {w w' : World} (hu : Up w w') {nb : Nat} {v : Value} {l : List Int} (h : Wbx w nb v l) : Wbx w' nb v l := ⟨h.1.up hu, h.2⟩
theorem OwnW.wbx {w : World} {nb b : Nat} {v : Value} {l : List Int} (h : OwnW w b v l) (hb : nb < b) : Wbx w nb v l := by
 refine ⟨h.wx, fun a n c e h0 => ?_⟩
 obtain ⟨_, ⟨rfl, h1⟩ | ⟨g, cap, cur, rfl, h2, _⟩⟩ := h
 ·simp at e
 ·injection e with e1
  injection e1 with e1
  subst e1
  show g ≠ nb
  omega
theorem Wx.wbx {w : World} {nb : Nat} {v : Value} {l : List Int} (h : Wx w v l) (hn : w.heap.size <= nb) : Wbx w nb v l := by
 refine ⟨h, fun a n c e h0 => ?_⟩
 rcases h with ⟨rfl, p, c', rfl⟩ | ⟨g, o, cap, C, rfl, -, hB, -⟩
 ·injection e with e1 e2
  omega
 ·injection e with e1
  injection e1 with e1
  subst e1
  have := hB.lt
  show g ≠ nb
  omega
theorem Wbx.other {w : World} {nb : Nat} {v : Value} {l : List Int} (h : Wbx w nb v l) (D : Array Value) : Wbx (w.setRow nb D) nb v l := by
 obtain ⟨h1, h2⟩ := h
 refine ⟨?_, h2⟩
 rcases h1 with h1 | ⟨g', o', cap, C, hv, hc, hB, ht⟩
 ·exact .inl h1
 ·rcases Nat.eq_zero_or_pos l.length with h0 | h0
  ·exact .inl ⟨List.length_eq_zero_iff.1 h0, _, _, by rw [hv, h0]⟩
  ·exact .inr ⟨g', o', cap, C, hv, hc, Blk.row_other hB D (h2 _ _ _ hv h0), ht⟩
def OwnX (w : World) (base nb : Nat) (v : Value) (L : List (List Int)) : Prop :=
 ∃ xs : List Value, w.ownsRow base 124 1 v L.length xs /\ ∀ i, i < L.length -> ∃ s, xs[i]? = some s /\ Wbx w nb s (L.getD i [])
theorem OwnX.up {w w' : World} {base nb : Nat} {v : Value} {L : List (List Int)} (hu : Up w w') (h : OwnX w base nb v L) : OwnX w' base nb v L := by
 obtain ⟨xs, h1, h2⟩ := h
 exact ⟨xs, World.ownsRow.up h1 hu, fun i hi => by obtain ⟨s, h5, h6⟩ := h2 i hi; exact ⟨s, h5, h6.up hu⟩⟩
theorem OwnX.nil (w : World) (base nb : Nat) : OwnX w base nb (.slice none 0 0) [] := ⟨[], World.ownsRow_nil _ _ _ _, fun _ hi => absurd hi (Nat.not_lt_zero _)⟩
theorem OwnX.other {w : World} {base nb : Nat} {v : Value} {L : List (List Int)} {C : Array Value} (h : OwnX w base nb v L) (hC : Blk w nb 107 C) (D : Array Value) : OwnX (w.setRow nb D) base nb v L := by
 obtain ⟨xs, ⟨h0, h1⟩, h2⟩ := h
 refine ⟨xs, ⟨h0, ?_⟩, fun i hi => by obtain ⟨s, h5, h6⟩ := h2 i hi; exact ⟨s, h5, h6.other D⟩⟩
 rcases h1 with h1 | ⟨g', cap, cur, hv, hb, hB, hr⟩
 ·exact .inl h1
 ·refine .inr ⟨g', cap, cur, hv, hb, Blk.row_other hB D fun e => ?_, hr⟩
  subst e
  unfold Blk at hC
  rw [hC] at hB
  simp at hB
theorem OwnR.ownx {w : World} {base nb : Nat} {v : Value} {L : List (List Int)} (h : OwnR w base v L) (hn : w.heap.size <= nb) : OwnX w base nb v L := by
 obtain ⟨xs, h1, h2⟩ := h
 exact ⟨xs, h1, fun i hi => by obtain ⟨s, h3, h4⟩ := h2 i hi; exact ⟨s, h3, h4.1.wx.wbx hn⟩⟩
theorem OwnX.open {w : World} {b nb : Nat} {v : Value} {L : List (List Int)} (h : OwnX w b nb v L) (h0 : 0 < L.length) :
   ∃ g cap C, v = .slice (some ⟨g, 0, none⟩) L.length cap /\ b <= g /\ L.length <= cap /\ Blk w g 124 C /\ ∀ i, i < L.length -> ∃ s, C[i]? = some s /\ Wbx w nb s (L.getD i []) := by
 obtain ⟨xs, ⟨_, h1 | ⟨g, cap, cur, hv, hbb, hB, hc, _, _, ht⟩⟩, h2⟩ := h
 ·omega
 ·refine ⟨g, cap, cur, hv, hbb, hc, hB, fun i hi => ?_⟩
  obtain ⟨s, h3, h4⟩ := h2 i hi
  rw [<- ht, List.getElem?_take_of_lt (by omega), Array.getElem?_toList] at h3
  exact ⟨s, h3, h4⟩
theorem OwnX.slice {w : World} {base nb : Nat} {v : Value} {L : List (List Int)} (h : OwnX w base nb v L) : ∃ p c, v = .slice p L.length c := by
 rcases Nat.eq_zero_or_pos L.length with h0 | h0
 ·obtain ⟨xs, ⟨_, ⟨rfl, h1⟩ | ⟨g, cap, cur, hv, _⟩⟩, _⟩ := h
  ·exact ⟨none, 0, by rw [h0]⟩
  ·exact ⟨_, cap, hv⟩
 ·obtain ⟨g, cap, C, hv, _⟩ := h.open h0
  exact ⟨_, cap, hv⟩
theorem Rx.tail1 {w : World} {g n cap : Nat} {C : Array Value} {L : List (List Int)} (hl : L.length = n + 1) (hc : n + 1 <= cap) (hB : Blk w g 124 C) (hE : ∀ i, i < L.length -> ∃ s, C[i]? = some s /\ Wx w s (L.getD i [])) : Rx w (.slice (some ⟨g, 1, none⟩) n (cap - 1)) (L.drop 1) := by
 have hn : (L.drop 1).length = n := by rw [List.length_drop]; omega
 refine .inr ⟨g, 1, cap - 1, C, by rw [hn], by rw [hn]; omega, hB, fun i hi => ?_⟩
 rw [hn] at hi
 obtain ⟨s, h1, h2⟩ := hE (i + 1) (by omega)
 refine ⟨s, by rw [Nat.add_comm]; exact h1, ?_⟩
 have e : (L.drop 1).getD i [] = L.getD (i + 1) [] := by rw [List.getD_eq_getElem?_getD, List.getD_eq_getElem?_getD, List.getElem?_drop, Nat.add_comm]
 rw [e]
 exact h2
theorem Wx.grown {w w' : World} {row : Option Nat} {v : Value} {l : List Int} (h : Wx w v l) (hg : w.grownBy w' row) (hr : ∀ k, row = some k -> ∃ C, Blk w k 124 C) : Wx w' v l := by
 rcases h with h | ⟨g, o, cap, C, h1, h2, h3, h4⟩
 ·exact .inl h
 ·refine .inr ⟨g, o, cap, C, h1, h2, ?_, h4⟩
  unfold Blk
  rw [hg.block g h3.lt ?_]
  ·exact h3
  ·intro e
   obtain ⟨D, hD⟩ := hr g e.symm
   unfold Blk at hD h3
   rw [hD] at h3
   simp at h3
theorem appX {ops : Array Oper} {rest : List Oper} {Q : Exit -> Act -> World -> Prop} {a : Act} {w : World} {d : Option Tmp} {s u : Operand} {ty : TypeId} {pos : String} {af : Array Edge} {base nb g c : Nat} {v : Value} {L : List (List Int)} {x : Value} {r : List Int}
   (hs : a.eval s = v) (hu : a.eval u = .slice (some ⟨g, 0, none⟩) 1 c) (hown : OwnX w base nb v L) (hV : w.cell? ⟨g, 0, none⟩ = some x) (hx : Wbx w nb x r) (hbase : base <= w.heap.size) (hl : L.length < 1000000)
   (h : ∀ v' w', OwnX w' base nb v' (L ++ [r]) -> w.grownBy w' v.ownBlock -> Below base w w' -> wpList Tryz.prog ops Q rest (a.put d v') w') :
   wpList Tryz.prog ops Q ({ dst := d, op := .call { callee := .builtin .append, args := #[s, u], argTypes := #[122, 122] }, type := ty, pos := pos, after := af, guard := none } :: rest) a w := by
 obtain ⟨i0, hi0, he⟩ := Option.map_eq_some_iff.1 infoRs
 simp only [Prod.mk.injEq] at he
 obtain ⟨xs, hxs, hE⟩ := hown
 have hlt := World.ownsRow.lt hxs
 have hrow : ∀ k, v.ownBlock = some k -> ∃ C, Blk w k 124 C := by
  intro k hk
  obtain ⟨_, ⟨rfl, _⟩ | ⟨g', cap, cur, rfl, _, hB, _⟩⟩ := hxs
  ·simp [Value.ownBlock] at hk
  ·simp [Value.ownBlock] at hk; subst hk; exact ⟨cur, hB⟩
 have hxl : xs.length = L.length := by have := hxs.1; omega
 obtain ⟨px, cx, rfl⟩ := hx.1.slice
 refine wpList_append_own w rfl s u 122 rfl base 124 i0 _ 1 24 undRs hi0 he.1 he.2.1 he.2.2 rfl (by decide) v L.length xs hs hxs ⟨g, 0, none⟩ 1 c [.slice px r.length cx] hu rfl (fun j y hy => by
  rcases j with _ | j
  ·simp at hy; subst hy; rw [Addr.add_mid]; exact hV
  ·simp at hy) (by simp [Value.oneCell']) (by unfold maxLen; omega) (by omega) hbase ?_
 intro v' w' h1 h2 _
 refine h v' w' ⟨xs ++ [.slice px r.length cx], by rw [List.length_append]; exact h1, fun i hi => ?_⟩ h2 ⟨h2.os, h2.tape, h2.output, h2.size, fun k hk => h2.block k (by omega) fun e => ?_⟩
 ·rw [List.length_append, List.length_singleton] at hi
  by_cases e : i < L.length
  ·obtain ⟨s', h3, h4⟩ := hE i e
   refine ⟨s', by rw [List.getElem?_append_left (by omega)]; exact h3, ?_⟩
   rw [show (L ++ [r]).getD i [] = L.getD i [] from by rw [List.getD_eq_getElem?_getD, List.getD_eq_getElem?_getD, List.getElem?_append_left e]]
   exact ⟨h4.1.grown h2 hrow, h4.2⟩
  ·obtain rfl : i = L.length := by omega
   refine ⟨_, by rw [List.getElem?_append_right (by omega), hxl, Nat.sub_self]; rfl, ?_⟩
   rw [show (L ++ [r]).getD L.length [] = r from by rw [List.getD_eq_getElem?_getD, List.getElem?_append_right (Nat.le_refl _), Nat.sub_self]; rfl]
   exact ⟨hx.1.grown h2 hrow, hx.2⟩
 ·have := hlt k e.symm
  omega
theorem rx_tail {w : World} {g n c2 : Nat} {C : Array Value} {L : List (List Int)} (hl : L.length = n + 1) (hc : n + 1 <= c2 + 1) (hB : Blk w g 124 C) (hE : ∀ i, i < L.length -> ∃ s, C[i]? = some s /\ Wx w s (L.getD i [])) : Rx w (tailV g n c2) (L.drop 1) := by
 unfold tailV
 by_cases h0 : c2 = 0
 ·have hn : (L.drop 1) = [] := List.length_eq_zero_iff.1 (by rw [List.length_drop]; omega)
  exact .inl ⟨hn, _, _, by rw [show n = 0 by omega]⟩
 ·rw [if_neg h0]
  exact Rx.tail1 hl hc hB hE
theorem OwnX.tail {w : World} {b nb g s c2 : Nat} {L : List (List Int)} (h : OwnX w b nb (.slice (some ⟨g, 0, none⟩) (s + 1) (c2 + 1)) L) (hl : L.length = s + 1) : Rx w (tailV g s c2) (L.drop 1) := by
 obtain ⟨g', cap, C, hv, _, hc, hB, hE⟩ := h.open (by omega)
 injection hv with e1 e2 e3
 injection e1 with e1
 injection e1 with e1
 subst e1 e3
 exact rx_tail hl (by omega) hB fun i hi => by obtain ⟨s, h1, h2⟩ := hE i hi; exact ⟨s, h1, h2.1⟩
set_option maxHeartbeats 8000000 in
theorem stakenoff_any {vf vr : Value} {F R : List Int} {q : Int} {n : Nat} {w : World} (hF : Wx w vf F) (hR : Wx w vr R) (lF : F.length = n + 1) (lR : R.length = n + 1) (hn : n <= 8)
   (bF : Few F) (bR : Few R) (bq : q.natAbs < bp 5) (q0 : q ≠ 0) :
   Calls Tryz.prog 131 #[vf, vr, wideV (enc q)] w fun r w' => ∃ z, r = .returned z /\ Up w w' /\ ∃ b, w.heap.size <= b /\ OwnW w' b z (tk F R q n) := by
 obtain ⟨gF, oF, cF, CF, rfl, -, hBF, htF⟩ := hF.open (by omega)
 obtain ⟨gR, oR, cR, CR, rfl, hcR, hBR, htR⟩ := hR.open (by omega)
 obtain ⟨old, hold⟩ : ∃ o, R.drop 1 = o := ⟨_, rfl⟩
 obtain rfl : n = old.length := by rw [<- hold, List.length_drop]; omega
 have hRng16 : ∀ w', Blk w' gR 107 CR -> w'.rangeAt gR (oR + 16) (wcs old) := fun w' hB => hold ▸ wx_drop1 hB htR lR
 have HRng16 := hid hRng16
 have HRng0 : Hid (old.length = 0 -> ∀ (w' : World) g o, w'.rangeAt g o (wcs old)) := hid (fun h w' g o j v hv => by rw [List.length_eq_zero_iff.1 h] at hv; exact absurd hv (by simp [wcs]))
 have HRO : Hid (∀ i, zth old i = zth R (i + 1)) := hid (fun i => by rw [<- hold, zth_drop])
 rw [lF, lR]
 rw [lR] at hcR
 obtain ⟨L', hL'⟩ : ∃ x, tk F R q old.length = x := ⟨_, rfl⟩
 have hlL : L'.length = old.length := by rw [<- hL']; exact mk_len _ _
 have HlL := hid hlL
 have HAt : Hid (∀ i, i < old.length -> zth L' i = (zth F 0 * zth R (i + 1) - zth R 0 * zth F (i + 1)).tdiv q) := hid (fun i hi => by rw [<- hL']; exact mk_at hi)
 have HtF := hid htF
 have HtR := hid htR
 have HlF := hid lF
 have HlR := hid lR
 have hq : InR q := few_inR (by omega) bq
 rw [hL']
 obtain ⟨wS, hwS⟩ : ∃ x, w.alloc (.cells (cells 16 (limb (enc q))) 107) = x := ⟨_, rfl⟩
 have hBox : Row wS w.heap.size 107 16 (limb (enc q)) := by rw [<- hwS]; exact row_newc _ _ _ rfl
 have hUS : Up w wS := by rw [<- hwS]; exact Up.alloc _ _
 have hBFS := hBF.up hUS
 have hBRS := hBR.up hUS
 have hszS : wS.heap.size = w.heap.size + 1 := by rw [<- hwS]; simp
 have hgF := hBF.lt
 have hgR := hBR.lt
 clear hF hR hold hRng16 hL' hlL htF htR lF lR hBF hBR
 obtain ⟨c2, rfl⟩ : ∃ c2, cR = c2 + 1 := ⟨cR - 1, by omega⟩
 unfold wideV at *
 rcases c2 with _ | c2
 ·obtain rfl : old = [] := List.length_eq_zero_iff.1 (by omega)
  obtain rfl : L' = [] := List.length_eq_zero_iff.1 HlL.out
  go_enter Tryz.func131, Tryz.ntmps131
  go_wp2_with (first
   | ((with_reducible apply appW (l := []) (m := [])); exact rfl; exact rfl; exact OwnW.nil _ wS.heap.size; exact HRng0.out rfl _ _ _; exact Nat.le_refl _; (focus (simp; done)); (focus (simp; done)); rintro v1 w1 hO1 - hb1; rw [List.nil_append] at hO1; obtain ⟨pL, cL, rfl⟩ := hO1.slice))
  go_loopg [15] 1 (fun g ti wr => ti = .int .i64 0 /\ OwnW wr wS.heap.size (.slice pL 0 cL) [] /\ Up wS wr)
  case atStart => exact ⟨rfl, hO1, hb1⟩
  case round =>
   clear hO1 hb1
   obtain ⟨rfl, hO1, hb1⟩ := hrel
   go_wp2_with fail
   go_ret
   exact ⟨_, rfl, hUS.trans hb1, _, hUS.size, hO1⟩
 ·go_enter Tryz.func131, Tryz.ntmps131
  go_wp2_with (first
   | ((with_reducible apply appW (l := []) (m := old)); exact rfl; exact rfl; exact OwnW.nil _ wS.heap.size; (first | exact HRng16.out _ hBRS | exact HRng0.out (by omega) _ _ _); exact Nat.le_refl _; (focus (simp; done)); (focus omega); rintro v1 w1 hO1 - hb1; rw [List.nil_append] at hO1; obtain ⟨pL, cL, rfl⟩ := hO1.slice))
  have hU1 : Up wS w1 := hb1
  go_loopg [15] old.length (fun g ti wr => ∃ i : Nat, i <= old.length /\ old.length - i <= g /\ ti = .int .i64 (i : Nat) /\ OwnW wr wS.heap.size (.slice pL old.length cL) (mixed L' old i) /\ Up wS wr)
  case atStart => exact ⟨0, Nat.zero_le _, by omega, rfl, by rw [mixed_zero]; exact hO1, hU1⟩
  case round =>
   clear hO1 hU1 hb1
   obtain ⟨i, hi, hig, rfl, hO, hu⟩ := hrel
   by_cases hlt : i < old.length
   ·have hml := mixed_len HlL.out i
    obtain ⟨gL, cL', CL, hv, hbL, hBL, -, -, -, htL⟩ := hO.open (by omega)
    injection hv with x1 x2 x3
    subst x1 x3
    have hmi : zth (mixed L' old i) i = zth R (i + 1) := by rw [mixed_at HlL.out hlt, HRO.out]
    have hRL : ∀ w', Blk w' gL 107 CL -> w'.rangeAt gL (i * 16) (wc (zth R (i + 1))) := fun w' hB => hmi ▸ wv_range hB htL (by omega)
    have HRL := hid hRL
    have HRF0 := hid (fun w' (hB : Blk w' gF 107 CF) => wx_range hB HtF.out (i := 0) (by rw [HlF.out]; omega))
    have HRFi := hid (fun w' (hB : Blk w' gF 107 CF) => wx_range hB HtF.out (i := i + 1) (by rw [HlF.out]; omega))
    have HRR0 := hid (fun w' (hB : Blk w' gR 107 CR) => wx_range hB HtR.out (i := 0) (by rw [HlR.out]; omega))
    have hat := HAt.out i hlt
    have b1 : (zth F 0 * zth R (i + 1)).natAbs < bp 10 := mul_bp (bF 0) (bR (i + 1))
    have b2 : (zth R 0 * zth F (i + 1)).natAbs < bp 10 := mul_bp (bR 0) (bF (i + 1))
    have HM1 := hid (fun w => stimes_any (w := w) (few_inR (by omega) (bF 0)) (few_inR (by omega) (bR (i + 1))) (few_inR (by omega) b1))
    have HM2 := hid (fun w => stimes_any (w := w) (few_inR (by omega) (bR 0)) (few_inR (by omega) (bF (i + 1))) (few_inR (by omega) b2))
    have b3 : (zth F 0 * zth R (i + 1) - zth R 0 * zth F (i + 1)).natAbs < bp 11 := by
     have e : bp 11 = bp 10 * 18446744073709551616 := bp_succ 10
     have := Int.natAbs_sub_le (zth F 0 * zth R (i + 1)) (zth R 0 * zth F (i + 1))
     omega
    have HS := hid (fun w => sless_any (w := w) (few_inR (by omega) b1) (few_inR (by omega) b2) (few_inR (by omega) b3))
    have HD := hid (fun w => div_any (few_inR (by omega) b3) hq w)
    have hdv : divZV (zth F 0 * zth R (i + 1) - zth R 0 * zth F (i + 1)) q = .tuple #[wideV (enc (zth L' i)), wideV (enc ((zth F 0 * zth R (i + 1) - zth R 0 * zth F (i + 1)).tmod q)), .bool true] := by
     unfold divZV
     rw [if_neg (by rintro (h | h); exact q0 h; exact h (few_inR (by omega) (tdiv_bp b3))), <- hat]
    rw [hdv] at HD
    have HSet := hid (mixed_set HlL.out hlt)
    clear b1 b2 b3 hdv hat hRL hmi htL hml x2
    generalize (zth F 0 * zth R (i + 1) - zth R 0 * zth F (i + 1)).tmod q = rest at *
    generalize zth F 0 * zth R (i + 1) - zth R 0 * zth F (i + 1) = dif at *
    generalize zth F 0 * zth R (i + 1) = p1 at *
    generalize zth R 0 * zth F (i + 1) = p2 at *
    go_wp2_with fail
    have hBFr := hBFS.up hu
    have hBRr := hBRS.up hu
    have hBxr := hBox.up hu
    have hgL : wS.heap.size <= gL := by omega
    have e1 : IntKind.i64.wrap ((i : Int) + 1) = (i : Int) + 1 := IntWalk.i64_in _ (by omega)
    have e2 : (0 : Int) <= (i : Int) + 1 /\ (i : Int) + 1 < (old.length : Int) + 1 := by omega
    unfold wideV at *
    refine opU (S := (fun wq => Up wr wq /\ Below w.heap.size w wq)) (req := (fun j => j != 19)) (fun _ _ h hu => ⟨(h.1).trans hu, below_up (h.2) hu⟩) ⟨(by first | exact Up.refl _ | assumption), gUp⟩ (fun wS hSS hSu => ?_)
    have ⟨hS1, hSB⟩ := hSS
    refine tkP 0 (some 18) hSu ?_
    refine tkP 1 (some 19) hSu ?_
    refine tkT 2 (some 20) rfl hSu hSS ?_ (hy := fun w' hSw => run_ldW rfl rfl (HRF0.out _ (hBFr.up hSw.1)))
    refine tkP 3 (some 21) hSu ?_
    refine tkP 4 (some 22) hSu ?_
    refine tkP 5 (some 23) hSu ?_
    refine tkT 6 (some 24) rfl hSu hSS ?_ (hy := fun w' hSw => run_ldW rfl rfl (HRL.out _ (hBL.up hSw.1)))
    refine tkC 7 (some 25) rfl hSu hSS ?_ (hy := fun w' hSw => (HM1.out _))
    refine tkP 8 (some 26) hSu ?_
    refine tkP 9 (some 27) hSu ?_
    refine tkT 10 (some 28) rfl hSu hSS ?_ (hy := fun w' hSw => run_ldW rfl rfl (HRR0.out _ (hBRr.up hSw.1)))
    refine tkP 11 (some 29) hSu ?_
    refine tkP 12 (some 30) hSu ?_
    refine tkP 13 (some 31) hSu ?_
    refine tkP 14 (some 32) hSu ?_
    refine tkT 15 (some 33) rfl hSu hSS ?_ (hy := fun w' hSw => run_ldW rfl rfl (HRFi.out _ (hBFr.up hSw.1)))
    refine tkC 16 (some 34) rfl hSu hSS ?_ (hy := fun w' hSw => (HM2.out _))
    refine tkC 17 (some 35) rfl hSu hSS ?_ (hy := fun w' hSw => (HS.out _))
    refine wpAnyU_allocW (i := 18) (d := (some 9)) rfl rfl (by kernel_rfl) (by rfl) rfl hSu.out fun w2 hw2 => ?_
    try simp only [Act.put, pu1, pu2, pu3]
    refine wpAnyU_one (i := 19) rfl (by kernel_rfl) (by rfl) fun w3 hw3 => ?_
    refine wp_st_rowN infoW rfl _ _ rfl _ rfl rfl ((Row.up (row_newc _ 16 _ rfl) hw3)) ?_
    refine ⟨fun h => by simp at h, ?_⟩
    try simp only [Act.put, pu1, pu2, pu3]
    refine wpAnyU_done (by kernel_rfl) (fun wF huE => ?_) _
    have hP1 := ((Row.up (row_newc 107 16 (fun _ => 0) (rfl : w2.heap.size = w2.heap.size)) hw3).setRow (limb (enc dif))).up huE
    have hx1 := up_var (hS1.trans hw2) hw3 huE
    have hlt1 := Nat.le_trans hu.size (hS1.trans hw2).size
    clear hS1 hSB hSS hw2 hw3 huE
    obtain ⟨wB, hwB⟩ : ∃ x, wF = x := ⟨_, rfl⟩
    rw [hwB] at hP1 hx1 ⊢
    clear hwB
    obtain ⟨b1, hb1⟩ : ∃ x, w2.heap.size = x := ⟨_, rfl⟩
    rw [hb1] at hP1 hlt1 ⊢
    clear hb1
    have hBxB := hBxr.up hx1
    have hBLB := hBL.up hx1
    have hOB := hO.up hx1
    have huB := hu.trans hx1
    have hltB := hBxB.lt
    clear hx1
    go_wp2_with (first
     | ((with_reducible apply ld_rowP undW infoW); exact rfl; exact rfl; exact gRow)
     | (go_at_call 103; (with_reducible refine (HD.out _).mono ?_); rintro r w7 ⟨rfl, hu7⟩; have hx7 : Up wB w7 := hu7; have hBL7 := hBLB.up hx7; have hset := (hOB.up hx7).set hBL7 (i := i) (by rw [mixed_len HlL.out]; exact hlt) (zth L' i); rw [HSet.out] at hset; have hu8 := below_setRow (huB.trans hx7) hgL (splW CL (i * 16) (zth L' i)))
     | ((with_reducible apply stW_P); exact rfl; exact rfl; exact hBL7; exact hset.2))
    go_roundg (old.length - (i + 1))
    case measure => omega
    case rel => exact ⟨i + 1, hlt, Nat.le_refl _, rfl, hset.1, hu8⟩
   ·obtain rfl : i = old.length := by omega
    rw [<- HlL.out, mixed_all HlL.out] at hO
    go_wp2_with fail
    go_ret
    rw [HlL.out] at hO
    exact ⟨_, rfl, hUS.trans hu, _, hUS.size, hO⟩
set_option maxHeartbeats 8000000 in
theorem turned_any {vf vo : Value} {F : List Int} {L : List (List Int)} {q : Int} {n nb : Nat} {w : World} (hF : Wbx w nb vf F) (hO : Rx w vo L) (lF : F.length = n + 1) (lL : ∀ i, i < L.length -> (L.getD i []).length = n + 1) (hn : n <= 8) (h8 : L.length <= 8)
   (bF : Few F) (bL : ∀ i, Few (L.getD i [])) (bq : q.natAbs < bp 5) (q0 : q ≠ 0) (hnb : nb < w.heap.size) :
   Calls Tryz.prog 108 #[vf, vo, wideV (enc q)] w fun r w' => ∃ z, r = .returned z /\ Up w w' /\ ∃ b, w.heap.size <= b /\ OwnX w' b nb z ((L.map fun R => tk F R q n) ++ [F.drop 1]) := by
 have HTK := hid (fun (R : List Int) (vr : Value) (w' : World) (hu : Up w w') (hR : Wx w' vr R) (lR : R.length = n + 1) (bR : Few R) => stakenoff_any (hF.1.up hu) hR lF lR hn bF bR bq q0)
 have HL := hid lL
 have HB := hid bL
 have hFo := hF.1
 obtain ⟨gF, oF, cF, CF, rfl, hcF, hBF, htF⟩ := hFo.open (by omega)
 have hgn : gF ≠ nb := hF.2 _ _ _ rfl (by omega)
 rw [lF] at hcF
 have HFT := hid (fun w' (hB : Blk w' gF 107 CF) => wx_tail lF hcF hB htF)
 have hdl : (F.drop 1).length = n := by rw [List.length_drop]; omega
 have HDL := hid hdl
 rw [lF] at HTK ⊢
 clear hF hFo htF
 obtain ⟨wS, hwS⟩ : ∃ x, w.alloc (.cells (cells 16 (limb (enc q))) 107) = x := ⟨_, rfl⟩
 have hBox : Row wS w.heap.size 107 16 (limb (enc q)) := by rw [<- hwS]; exact row_newc _ _ _ rfl
 have hUS : Up w wS := by rw [<- hwS]; exact Up.alloc _ _
 have hML : (L.map fun R => tk F R q n).length = L.length := List.length_map ..
 have HML := hid hML
 have HT := hid (fun k (hk : k < L.length) => take_map_succ (fun R => tk F R q n) L [] hk)
 obtain ⟨T, hT⟩ : ∃ T, (L.map fun R => tk F R q n) = T := ⟨_, rfl⟩
 rw [hT] at HML HT ⊢
 clear hT hML lL bL lF bF hdl
 have hnS : nb < wS.heap.size := Nat.lt_of_lt_of_le hnb hUS.size
 obtain ⟨c2, rfl⟩ : ∃ c2, cF = c2 + 1 := ⟨cF - 1, by omega⟩
 have HE := hid (show ∀ w', Up w w' -> ∀ i, i < L.length -> ∃ g o, vo.ownBlock = some g /\ ∃ cO, vo = .slice (some ⟨g, o, none⟩) L.length cO /\ ∃ s, w'.cell? ⟨g, o + i, none⟩ = some s /\ Wx w' s (L.getD i []) from fun w' hu i hi => by
  obtain ⟨g, o, cO, CO, rfl, -, hBO, hE⟩ := hO.open (by omega)
  obtain ⟨s, h1, h2⟩ := hE i hi
  exact ⟨g, o, rfl, cO, rfl, s, (hBO.up hu).cell _ h1, h2.up hu⟩)
 obtain ⟨pO, cO, rfl⟩ := hO.slice
 clear hO
 unfold wideV at *
 go_enter Tryz.func108, Tryz.ntmps108
 go_wp2_with fail
 go_loopg [7, 12] L.length (fun g tr ti wr => ∃ k : Nat, k <= L.length /\ L.length - k <= g /\ ti = .int .i64 (k : Nat) /\ OwnX wr wS.heap.size nb tr (T.take k) /\ Up wS wr)
 case atStart => exact ⟨0, Nat.zero_le _, by omega, rfl, by rw [List.take_zero]; exact OwnX.nil _ _ _, Up.refl _⟩
 case round =>
  obtain ⟨k, hk, hkg, rfl, hO, hu⟩ := hrel
  have hsz := hu.size
  by_cases hlt : k < L.length
  ·obtain ⟨gO, oO, -, cO', hv, s, hcx, h2⟩ := HE.out _ (hUS.trans hu) k hlt
   injection hv with x1 x2 x3
   subst x1 x3
   obtain ⟨ps, cs, rfl⟩ := h2.slice
   have hBx := hBox.up hu
   have HTKk := hid (fun w' (hu' : Up wr w') => HTK.out (L.getD k []) _ w' ((hUS.trans hu).trans hu') (h2.up hu') (HL.out k hlt) (HB.out k))
   have hT9 := HT.out k hlt
   have HT9 := hid hT9
   have HTk : Hid ((T.take k).length < 1000000) := hid (by rw [List.length_take, HML.out]; omega)
   have e1 : IntKind.i64.wrap ((k : Int) + 1) = (k : Int) + 1 := IntWalk.i64_in _ (by omega)
   clear h2 hT9 x2
   generalize L.getD k [] = R at *
   generalize tk F R q n = TK at *
   go_wp2_with (first
    | ((with_reducible apply ld_rowP undW infoW); exact rfl; exact rfl; exact gRow)
    | (go_at_call 131; (with_reducible refine (HTKk.out _ (Up.refl _)).mono ?_); rintro r w3 ⟨z3, rfl, hu3, b3, hb3, hO3⟩; obtain ⟨p3, c3, rfl⟩ := hO3.slice; have hsz3 := hu3.size)
    | ((with_reducible apply appX); exact rfl; exact rfl; exact OwnX.up (hu3.trans (Up.alloc _ _)) hO; exact (Blk.new _ _ rfl).cell 0 rfl; exact (hO3.up (Up.alloc _ _)).wbx (by omega); (focus (simp; omega)); exact HTk.out; rintro v6 w6 hO6 - hb6))
   go_roundg (L.length - (k + 1))
   case measure => omega
   case rel => exact ⟨k + 1, hlt, Nat.le_refl _, rfl, by rw [HT9.out]; exact hO6, Below.trans ((hu.trans hu3).trans (Up.alloc _ _)) hb6⟩
  ·obtain rfl : k = L.length := by omega
   rw [<- HML.out, List.take_length] at hO
   have HTk : Hid (T.length < 1000000) := hid (by rw [HML.out]; omega)
   have hBFr := hBF.up (hUS.trans hu)
   rcases c2 with _ | c2
   ·obtain rfl : n = 0 := by omega
    have HW0 : Hid (∀ w', Wbx w' nb (.slice (some ⟨gF, oF, none⟩) 0 0) (F.drop 1)) := hid (fun w' => ⟨.inl ⟨List.length_eq_zero_iff.1 HDL.out, _, _, rfl⟩, fun _ _ _ e h0 => by injection e with e1 e2; omega⟩)
    have HDl := hid HDL.out
    go_wp2_with (first
     | ((with_reducible apply appX (r := F.drop 1)); exact rfl; exact rfl; exact OwnX.up (Up.alloc _ _) hO; exact (Blk.new _ _ rfl).cell 0 rfl; exact HW0.out _; (focus (simp; omega)); exact HTk.out; rintro v6 w6 hO6 - hb6))
    go_ret
    exact ⟨_, rfl, hUS.trans (Below.trans (hu.trans (Up.alloc _ _)) hb6), _, hUS.size, hO6⟩
   ·have HW1 : Hid (∀ w', Blk w' gF 107 CF -> Wbx w' nb (.slice (some ⟨gF, oF + 16, none⟩) n (c2 + 1)) (F.drop 1)) := hid (fun w' hB => ⟨HFT.out w' hB, fun _ _ _ e h0 => by injection e with e1; injection e1 with e1; subst e1; exact hgn⟩)
    go_wp2_with (first
     | ((with_reducible apply appX (r := F.drop 1)); exact rfl; exact rfl; exact OwnX.up (Up.alloc _ _) hO; exact (Blk.new _ _ rfl).cell 0 rfl; exact HW1.out _ (hBFr.up (Up.alloc _ _)); (focus (simp; omega)); exact HTk.out; rintro v6 w6 hO6 - hb6))
    go_ret
    exact ⟨_, rfl, hUS.trans (Below.trans (hu.trans (Up.alloc _ _)) hb6), _, hUS.size, hO6⟩
def rowV (n : Nat) (l v : List Int) (i : Nat) : List Int := rowE n l i ++ [zth v i]
def bsE (n : Nat) (l v : List Int) : List (List Int) := (List.range n).map fun i => rowV n l v i
theorem bsE_take_succ (n : Nat) (l v : List Int) {i : Nat} (hi : i < n) : (bsE n l v).take (i + 1) = (bsE n l v).take i ++ [rowV n l v i] := by
 unfold bsE
 rw [take_map_succ _ (List.range n) 0 (by simpa using hi), List.getD_eq_getElem?_getD, List.getElem?_range hi]
 rfl
theorem Win.start (n : Nat) (l v : List Int) : Win n n (bsE n l v) (AV n l v) := by
 have hl : (bsE n l v).length = n := by unfold bsE; simp
 refine ⟨hl, fun i hi => ?_⟩
 have e : (bsE n l v).getD i [] = rowV n l v i := by
  rw [List.getD_eq_getElem?_getD]
  unfold bsE
  rw [List.getElem?_map, List.getElem?_range hi]
  rfl
 have hr : (rowE n l i).length = n := mk_len _ _
 rw [e]
 unfold rowV
 refine ⟨by rw [List.length_append, hr]; rfl, fun j hj => ?_⟩
 unfold AV
 rw [if_pos hi]
 by_cases h : j < n
 ·rw [if_pos h]
  unfold zth
  rw [List.getD_eq_getElem?_getD, List.getElem?_append_left (by omega), <- List.getD_eq_getElem?_getD]
  exact mk_at h
 ·rw [if_neg h, if_pos (by omega)]
  unfold zth
  rw [List.getD_eq_getElem?_getD, List.getElem?_append_right (by omega), hr, show j - n = 0 by omega]
  rfl
set_option maxHeartbeats 8000000 in
theorem beside_any {v xv : Value} {n : Nat} {l x : List Int} {w : World} (hm : Sm w v n l) (hR : rt n l = true) (hx : Vw w xv x) (hxl : x.length = n) (hI : In64 x) :
   Calls Tryz.prog 107 #[v, xv] w fun r w' => ∃ z, r = .returned z /\ Up w w' /\ ∃ b, w.heap.size <= b /\ OwnR w' b z (bsE n l x) := by
 have n8 : n <= 8 := by have := (rt_spec hR).2.1; omega
 have HAT := hid (fun (i j : Nat) (hi : i < n) (hj : j < n) w' (hu : Up w w') => at_right (hm.up hu) hR hi hj)
 have HO := hid (fun (i j : Nat) (hi : i < n) (hj : j < n) w => of_any (ent n l i j) (ent_i64 hR hi hj).1 (ent_i64 hR hi hj).2 w)
 have HOV := hid (fun (i : Nat) (hi : i < n) w => of_any (zth x i) (hI i (by omega)).1 (hI i (by omega)).2 w)
 have HXC := hid (fun w' (hu : Up w w') => hx.up hu)
 obtain ⟨px, cx, rfl, -, -⟩ := hx
 rw [hxl]
 obtain ⟨s, rfl, ⟨p, cap, rfl, hcap, hc⟩, hN, hl, hlen⟩ := hm
 obtain ⟨wS, hwS⟩ : ∃ x, w.alloc (.cells #[.int .i64 (n : Int), .slice p l.length cap] 24) = x := ⟨_, rfl⟩
 have hB : Blk wS w.heap.size 24 #[.int .i64 (n : Int), .slice p l.length cap] := by rw [<- hwS]; exact Blk.new _ _ rfl
 have hU : Up w wS := by rw [<- hwS]; exact Up.alloc _ _
 have hc0 := hB.cell 0 rfl
 have hsl : (bsE n l x).length = n := by unfold bsE; simp
 have HSL := hid hsl
 have HTR := hid (fun i (hi : i < n) => bsE_take_succ n l x hi)
 have HTE := hid (fun i j (hj : j < n) => mk_take_succ (n := n) (fun j => ent n l i j) hj)
 have HXL := hid hxl
 clear hc hl hlen hR hsl hN hI hxl
 unfold wideV at *
 go_enter Tryz.func107, Tryz.ntmps107
 go_wp2_with fail
 clear hwS hc0
 go_loopg [5, 13] n (fun g tr ti wr => ∃ i : Nat, i <= n /\ n - i <= g /\ ti = .int .i64 (i : Nat) /\ OwnR wr wS.heap.size tr ((bsE n l x).take i) /\ Up wS wr)
 case atStart => exact ⟨0, Nat.zero_le _, by omega, rfl, by rw [List.take_zero]; exact OwnR.nil _ _, Up.refl _⟩
 case round =>
  obtain ⟨i, hi, hig, rfl, hO, hu⟩ := hrel
  have hc0 := (hB.up hu).cell 0 rfl
  by_cases hlt : i < n
  ·have e1 : IntKind.i64.wrap ((i : Int) + 1) = (i : Int) + 1 := IntWalk.i64_in _ (by omega)
   go_wp2_with fail
   obtain ⟨wO, hwO⟩ : ∃ y, wr = y := ⟨_, rfl⟩
   rw [hwO] at hO hu hc0 ⊢
   clear hwO
   go_loopg [7, 18] n (fun g te tj wr => ∃ j : Nat, j <= n /\ n - j <= g /\ tj = .int .i64 (j : Nat) /\ OwnW wr wO.heap.size te ((rowE n l i).take j) /\ Up wO wr)
   case atStart => exact ⟨0, Nat.zero_le _, by omega, rfl, by rw [List.take_zero]; exact OwnW.nil _ _, Up.refl _⟩
   case round =>
    clear hc0
    obtain ⟨j, hj, hjg, rfl, hE, huj⟩ := hrel
    have hBj := hB.up (hu.trans huj)
    have hc0 := hBj.cell 0 rfl
    by_cases hjlt : j < n
    ·have e2 : IntKind.i64.wrap ((j : Int) + 1) = (j : Int) + 1 := IntWalk.i64_in _ (by omega)
     have HA := hid (fun w' (hu' : Up wr w') => HAT.out i j hlt hjlt w' (hU.trans ((hu.trans huj).trans hu')))
     have HOf := hid (HO.out i j hlt hjlt)
     have HT9 := hid (HTE.out i j hjlt)
     have HTk : Hid (((rowE n l i).take j).length < 1000000) := hid (by rw [List.length_take]; omega)
     have hszj := huj.size
     generalize ent n l i j = z at *
     go_wp2_with (first
      | ((with_reducible apply ldM_P); exact rfl; exact rfl; exact hBj; exact rfl)
      | (go_at_call 98; (with_reducible refine (HA.out _ (Up.refl _)).mono ?_); rintro r w2 ⟨rfl, hu2⟩; have hs2 := hu2.size)
      | (go_at_call 96; (with_reducible refine (HOf.out _).mono ?_); rintro r w3 ⟨rfl, hu3⟩; have hs3 := hu3.size)
      | ((with_reducible apply bsW_P); exact rfl)
      | ((with_reducible apply appW (l := (rowE n l i).take j) (m := [z])); exact rfl; exact rfl; exact OwnW.up ((hu2.trans hu3).trans (Up.alloc _ _)) hE; exact one_range rfl; (focus (simp; omega)); exact HTk.out; (focus (simp; done)); rintro v6 w6 hO6 - hb6))
     go_roundg (n - (j + 1))
     case measure => omega
     case rel => exact ⟨j + 1, hjlt, Nat.le_refl _, rfl, by rw [show rowE n l i = mk n fun j => ent n l i j from rfl, HT9.out]; exact hO6, Below.trans (huj.trans ((hu2.trans hu3).trans (Up.alloc _ _))) hb6⟩
    ·obtain rfl : j = n := by omega
     rw [List.take_of_length_le (by show (mk _ _).length <= _; rw [mk_len]; exact Nat.le_refl _)] at hE
     obtain ⟨pe, ce, rfl⟩ := hE.slice
     have HT9 := hid (HTR.out i hlt)
     have HTk : Hid (((bsE j l x).take i).length < 1000000) := hid (by rw [List.length_take]; omega)
     have HRl : Hid ((rowE j l i).length < 1000000) := hid (by show (mk _ _).length < _; rw [mk_len]; omega)
     have hszj := huj.size
     have hszu := hu.size
     have HOf := hid (HOV.out i hlt)
     obtain ⟨q', cq', xq, _, hcq⟩ := HXC.out _ (hU.trans (hu.trans huj))
     injection xq with y1 y2 y3
     subst y1
     obtain ⟨a2, rfl, hck⟩ := hcq i (by rw [HXL.out]; exact hlt)
     clear hcq y2 y3
     have eRV : rowV j l x i = rowE j l i ++ [zth x i] := rfl
     rw [eRV] at HT9
     clear eRV
     generalize zth x i = z at *
     go_wp2_with (first
      | (go_at_call 96; (with_reducible refine (HOf.out _).mono ?_); rintro r w3 ⟨rfl, hu3⟩; have hs3 := hu3.size)
      | ((with_reducible apply bsW_P); exact rfl)
      | ((with_reducible apply appW (l := rowE j l i) (m := [z])); exact rfl; exact rfl; exact OwnW.up (hu3.trans (Up.alloc _ _)) hE; exact one_range rfl; (focus (simp; omega)); exact HRl.out; (focus (simp; done)); rintro v5 w5 hO5 - hb5; obtain ⟨p5, c5, rfl⟩ := hO5.slice; rw [List.length_append, List.length_singleton] at hO5; have hUw : Up wO w5 := Below.trans (huj.trans (hu3.trans (Up.alloc _ _))) hb5; have hs5 := hUw.size)
      | ((with_reducible apply appR (r := rowE j l i ++ [z])); exact rfl; exact rfl; exact OwnR.up (hUw.trans (Up.alloc _ _)) hO; exact (Blk.new _ _ rfl).cell 0 rfl; exact (hO5.up (Up.alloc _ _)).wb (by omega); (focus (simp; omega)); exact HTk.out; rintro v6 w6 hO6 - hb6))
     go_roundg (j - (i + 1))
     case measure => omega
     case rel => exact ⟨i + 1, hlt, Nat.le_refl _, rfl, by rw [HT9.out]; exact hO6, Below.trans ((hu.trans hUw).trans (Up.alloc _ _)) hb6⟩
  ·obtain rfl : i = n := by omega
   rw [List.take_of_length_le (by rw [HSL.out]; exact Nat.le_refl _)] at hO
   go_wp2_with fail
   go_ret
   exact ⟨_, rfl, hU.trans hu, _, hU.size, hO⟩
theorem resTC {w : World} {fn : Func} {p u : Tmp} (h : fn.results = #[.tmp u, .cell p 107]) (tmps : Array Value) (g : Nat) (hp : tmps.getD p undef = .pointer (some ⟨g, 0, none⟩))
   {f : Nat -> Nat} (hC : Row w g 107 16 f) : (results fn tmps).run Tryz.prog w = .ok (.tuple #[tmps.getD u undef, .agg (cells 16 f)]) w := by
 have hp' : tmps[p]?.getD undef = .pointer (some ⟨g, 0, none⟩) := by simpa using hp
 simp [results, h, hp', asAddr, run_row undW infoW hC, Result.andThen_ok]
theorem run_tailN {ev : Operand -> Value} {w : World} {d : Option Tmp} {s : Tmp} {ty : TypeId} {pos : String} {af : Array Edge} {gd : Option (Nat × Bool)} {g n m c c2 : Nat} (hc : m <= c2) (hx : ev (.tmp s) = .slice (some ⟨g, 0, none⟩) n c) (hn : n = m + 1) (h2 : c = c2 + 1) (hk : ev (.const (.int .i64 1)) = .int .i64 1) :
   (execOp ev { dst := d, op := .slice 122 (.tmp s) (some (.const (.int .i64 1))) none none, type := ty, pos := pos, after := af, guard := gd }).run Tryz.prog w = .ok (.value (tailV g m c2)) w := by
 subst hn h2
 exact run_tail hc hx hk
def slL (n : Nat) (l x : List Int) : List Int := mk n fun i => slX n l x i
set_option maxHeartbeats 16000000 in
theorem solution_any {v xv : Value} {n : Nat} {l x : List Int} {w : World} (hm : Sm w v n l) (hD : Def n l x) (hx : Vw w xv x) (hxl : x.length = n) (hI : In64 x) :
   Calls Tryz.prog 85 #[v, xv] w fun r w' => ∃ z b, r = .returned (.tuple #[z, wideV (enc (slD n l))]) /\ Up w w' /\ w.heap.size <= b /\ OwnW w' b z (slL n l x) := by
 have HBE := hid (fun w' (hu : Up w w') => beside_any (hm.up hu) hD.right (hx.up hu) hxl hI)
 have HO1 := hid (fun w => of_any 1 (by decide) (by decide) w)
 have HD := hid hD
 have hn8 := hD.n8
 obtain ⟨px, cx, rfl, -, -⟩ := hx
 rw [hxl] at HBE ⊢
 clear hxl
 obtain ⟨s, rfl, ⟨p, cap, rfl, hcap, hc⟩, hN, hl, hlen⟩ := hm
 obtain ⟨W0, hW0⟩ : ∃ y, (w.alloc (.cells #[.int .i64 (n : Int), .slice p l.length cap] 24)).alloc (.cells (cells 16 (fun _ => 0)) 107) = y := ⟨_, rfl⟩
 have hB : Blk W0 w.heap.size 24 #[.int .i64 (n : Int), .slice p l.length cap] := by rw [<- hW0]; exact (Blk.new _ _ rfl).old _
 have hQ : Row W0 (w.heap.size + 1) 107 16 (fun _ => 0) := by rw [<- hW0]; exact row_newc _ _ _ (by simp)
 have hU : Up w W0 := by rw [<- hW0]; exact (Up.alloc _ _).trans (Up.alloc _ _)
 rw [<- zeros16] at hW0
 have hslen : (slL n l x).length = n := mk_len _ _
 have HSLn := hid hslen
 have HSL := hid (fun i (hi : i < n) => show (slL n l x).take (i + 1) = (slL n l x).take i ++ [slX n l x i] from mk_take_succ (fun i => slX n l x i) hi)
 clear hc hl hlen hN hI hD hslen
 unfold wideV at *
 go_enter Tryz.func85, Tryz.ntmps85
 go_wp2_with (first
  | ((with_reducible apply ldM_P); exact rfl; exact rfl; exact hB; exact rfl)
  | (go_at_call 107; (with_reducible refine (HBE.out _ hU).mono ?_); rintro r w1 ⟨z1, rfl, hu1, b1, hb1, hO1⟩; obtain ⟨pz, cz, rfl⟩ := hO1.slice; have hU1 := hU.trans hu1; have hB1 := hB.up hu1; have hQ1 := hQ.up hu1)
  | (go_at_call 96; (with_reducible refine (HO1.out _).mono ?_); rintro r w2 ⟨rfl, hu2⟩; have hs2 := hu2.size)
  | ((with_reducible apply st_rowP infoW); exact rfl; exact rfl; exact row_newz _ rfl
     refine wpL_folded (fun wd => Up w2 wd /\ Row wd w2.heap.size 107 16 (limb (enc 1))) ⟨gUp, gRow⟩ ?_
     rintro wL ⟨hXL, hLast⟩
     have hX1 := hu2.trans hXL
     have hU3 := hU1.trans hX1
     have hB3 := hB1.up hX1
     have hQ3 := hQ1.up hX1
     have hO3 := (hO1.ownx (nb := w2.heap.size) hs2).up hX1
     have hc0 := hB3.cell 0 rfl))
 obtain ⟨bL, hbL⟩ : ∃ y, w2.heap.size = y := ⟨_, rfl⟩
 have hwbL : w.heap.size + 1 < bL := by
  have h1 := hQ1.lt
  omega
 rw [hbL] at hLast hO3 ⊢
 have hWin := hid (Win.start n l x)
 have hInv : ∃ (k : Nat) (L : List (List Int)) (bR : Nat), k <= n /\ 0 = k /\ Win n (n - k) L (gs (AV n l x) k).2 /\ OwnX wL bR bL (.slice pz (bsE n l x).length cz) L /\ Row wL bL 107 16 (limb (enc (gs (AV n l x) k).1)) /\ Row wL (w.heap.size + 1) 107 16 (fun _ => 0) /\ Up w wL :=
  ⟨0, bsE n l x, b1, by omega, rfl, hWin.out, hO3, hLast, hQ3, hU3⟩
 clear hWin hO3 hLast hQ3 hU3 hX1 hXL hbL hu1 hU1 hb1 hO1 hB1 hQ1 hu2 hs2 hW0 hB hQ hU HBE HO1
 go_wp2_with fail
 go_loopg [6, 18] n (fun g tr ti wr => ∃ (k : Nat) (L : List (List Int)) (bR : Nat), k <= n /\ n - k <= g /\ ti = .int .i64 (k : Nat) /\ Win n (n - k) L (gs (AV n l x) k).2 /\ OwnX wr bR bL tr L /\ Row wr bL 107 16 (limb (enc (gs (AV n l x) k).1)) /\ Row wr (w.heap.size + 1) 107 16 (fun _ => 0) /\ Up w wr)
 case atStart =>
  obtain ⟨k, L, bR, h1, h0, h2⟩ := hInv
  subst h0
  exact ⟨0, L, bR, h1, by omega, rfl, h2⟩
 case round =>
  clear hInv hB3 hc0
  obtain ⟨k, L, bR, hk, hkg, rfl, hW, hO, hRow, hQ, hu⟩ := hrel
  obtain ⟨pr, cr, rfl⟩ := hO.slice
  rw [hW.1]
  by_cases hlt : k < n
  ·obtain ⟨s, hs⟩ : ∃ s, n - k = s + 1 := ⟨n - k - 1, by omega⟩
   rw [hs] at hW
   obtain ⟨gR, cR, CR, hv, hgR, hcR, hBR, hE⟩ := hO.open (by rw [hW.1]; omega)
   injection hv with x1 x2 x3
   subst x1 x3
   rw [hW.1] at hcR
   obtain ⟨sF, hsF, hWF⟩ := hE 0 (by rw [hW.1]; omega)
   obtain ⟨hLF, hLFe⟩ := hW.2 0 (by omega)
   obtain ⟨gF, oF, cF, CF, hvF, hcF, hBF, htF⟩ := hWF.1.open (by rw [hLF]; omega)
   have HWv : Hid (∀ w', Blk w' gF 107 CF -> Wbx w' bL (.slice (some ⟨gF, oF, none⟩) (s + 1 + 1) cF) (L.getD 0 [])) := hid (fun w' hB => ⟨.inr ⟨gF, oF, cF, CF, by rw [hLF], hcF, hB, htF⟩, fun a n c e h0 => hWF.2 a n c (by rw [hvF, hLF]; exact e) h0⟩)
   subst hvF
   rw [hLF] at hsF
   have HSV := hid (HD.out.sv k hk)
   have HPos := hid (gs_pos HD.out.pos' hlt)
   have HLst := hid (fun j => HD.out.last hlt j)
   have HRng : Hid (∀ w', Blk w' gF 107 CF -> w'.rangeAt gF oF (wc ((gs (AV n l x) k).2 0 0))) := hid (fun w' hB => by
    have h := wx_range hB htF (i := 0) (by rw [hLF]; omega)
    rw [hLFe 0 (by omega), Nat.zero_mul] at h
    exact h)
   have hcx := hBR.cell 0 hsF
   have hlt9 := hRow.lt
   have e1 : IntKind.i64.wrap ((k : Int) + 1) = (k : Int) + 1 := IntWalk.i64_in _ (by omega)
   have HW := hid hW
   have HLF := hid hLF
   have HG1 : Hid ((gs (AV n l x) (k + 1)).1 = (gs (AV n l x) k).2 0 0) := hid rfl
   have HG2 : Hid ((gs (AV n l x) (k + 1)).2 = nxt (gs (AV n l x) k).1 (gs (AV n l x) k).2) := hid rfl
   have hcR2 := hcR
   have e0 : (0 : Int) < (s : Int) + 1 + 1 := by omega
   rw [hW.1] at hO
   clear hLFe htF hWF hsF hE x2 hcF hW hLF hcR
   obtain ⟨q, hq⟩ : ∃ q, (gs (AV n l x) k).1 = q := ⟨_, rfl⟩
   obtain ⟨M, hM⟩ : ∃ M, (gs (AV n l x) k).2 = M := ⟨_, rfl⟩
   rw [hq, hM] at HSV
   rw [hM] at HPos HRng HW HG1
   rw [hq] at hRow
   rw [hq, hM] at HG2
   have HLst2 : Hid (∀ j, nxt q M (n - 1) j = M 0 (j + 1)) := hid (fun j => by have := HLst.out j; rw [HG2.out, hM] at this; exact this)
   clear hq hM HLst
   obtain ⟨m, hm⟩ : ∃ m, n = m + 1 := ⟨n - 1, by omega⟩
   obtain ⟨c2, hc2⟩ : ∃ c2, cr = c2 + 1 := ⟨cr - 1, by omega⟩
   have Hm := hid hm
   have Hc2 := hid hc2
   have hmc : m <= c2 := by omega
   have hO' : OwnX wr bR bL (.slice (some ⟨gR, 0, none⟩) (m + 1) (c2 + 1)) L := by rw [<- hm, <- hc2]; exact hO
   have HO' := hid hO'
   clear hm hc2 hO' hO
   obtain ⟨NX, hNX⟩ : ∃ y, turn q s L = y := ⟨_, rfl⟩
   have HNX := hid hNX
   have HFW : Hid (∀ w', Up wr w' -> Calls Tryz.prog 108 #[.slice (some ⟨gF, oF, none⟩) (s + 1 + 1) cF, tailV gR m c2, .agg (cells 16 (limb (enc q)))] w' (fun e w'' => Up w' w'' /\ ∃ v, e = .returned v /\ (fun v w'' => ∃ b, wr.heap.size <= b /\ OwnX w'' b bL v NX) v w'')) := hid (fun w' hu' => by
    have hf := turned_any (q := q) (n := s + 1) (nb := bL) (HWv.out w' (hBF.up hu')) ((HO'.out.up hu').tail (by rw [HW.out.1]; exact Hm.out)) HLF.out (fun i hi => by
       rw [List.length_drop, HW.out.1] at hi
       rw [show (L.drop 1).getD i [] = L.getD (i + 1) [] from by rw [List.getD_eq_getElem?_getD, List.getD_eq_getElem?_getD, List.getElem?_drop, Nat.add_comm]]
       exact (HW.out.2 (i + 1) (by omega)).1) (by omega) (by rw [List.length_drop, HW.out.1]; omega) (HW.out.few HSV.out (by omega) 0) (fun i => by rw [show (L.drop 1).getD i [] = L.getD (i + 1) [] from by rw [List.getD_eq_getElem?_getD, List.getD_eq_getElem?_getD, List.getElem?_drop, Nat.add_comm]]; exact HW.out.few HSV.out (by omega) (i + 1)) HSV.out.2.2 (Int.ne_of_gt HSV.out.2.1) (Nat.lt_of_lt_of_le hlt9 hu'.size)
    unfold wideV at hf
    rw [show ((L.drop 1).map fun R => tk (L.getD 0 []) R q (s + 1)) ++ [(L.getD 0 []).drop 1] = turn q s L from rfl, hNX] at hf
    refine hf.mono fun _ _ h => ?_
    obtain ⟨z, rfl, hu, b, hb, hO⟩ := h
    exact ⟨hu, z, rfl, b, Nat.le_trans hu'.size hb, hO⟩)
   clear hNX
   obtain ⟨m0, hm0⟩ : ∃ y, M 0 0 = y := ⟨_, rfl⟩
   rw [hm0] at HRng HG1
   clear hm0
   go_wp2_with fail
   refine opU (S := (fun wq => Up wr wq /\ Below w.heap.size w wq)) (req := (fun j => j != 9)) (fun _ _ h hu => ⟨(h.1).trans hu, below_up (h.2) hu⟩) ⟨(by first | exact Up.refl _ | assumption), gUp⟩ (fun wS hSS hSu => ?_)
   have ⟨hS1, hSB⟩ := hSS
   refine tkP 0 (some 23) hSu ?_
   refine tkP 1 (some 24) hSu ?_
   refine tkO 2 (some 25) rfl hSu ?_ (hy := fun w' => run_tailN hmc rfl Hm.out Hc2.out rfl)
   refine tkT 3 (some 26) rfl hSu hSS ?_ (hy := fun w' hSw => run_ld undW infoW _ rfl _ rfl (hRow.up hSw.1))
   refine tkP 5 (some 28) hSu ?_
   refine tkP 6 (some 29) hSu ?_
   refine tkT 7 (some 30) rfl hSu hSS ?_ (hy := fun w' hSw => run_ldW rfl rfl (HRng.out _ (hBF.up hSw.1)))
   refine wpAnyU_callE (i := 4) (d := (some 27)) rfl rfl (by kernel_rfl) (by rfl) hSu.out (fun w' => by go_simp) (fun w' hw' => (HFW.out w' (hS1.trans hw'))) fun vG wG hwG hRG => ?_
   try simp only [Act.put, pu1, pu2, pu3]
   obtain ⟨bN, hbN, hON⟩ := hRG
   obtain ⟨pN, cN, rfl⟩ := hON.slice
   refine tkP 8 (some 6) hSu ?_
   refine wpAnyU_one (i := 9) rfl (by kernel_rfl) (by rfl) fun wX hwX => ?_
   refine wp_st_rowN infoW rfl _ _ rfl _ rfl rfl ((hRow.up ((hS1.trans hwG).trans hwX))) ?_
   refine ⟨fun h => by simp at h, ?_⟩
   try simp only [Act.put, pu1, pu2, pu3]
   refine wpAnyU_done (by kernel_rfl) (fun wF huE => ?_) _
   have hUG := (hS1.trans hwG).trans hwX
   have gRow := ((hRow.up hUG).setRow (limb (enc m0))).up huE
   have gO := ((hON.up hwX).other (hRow.up hUG) (cells 16 (limb (enc m0)))).up huE
   have gU := Up.trans (below_setRow (hu.trans hUG) (show w.heap.size <= bL by omega) (cells 16 (limb (enc m0)))) huE
   have gQ := ((hQ.up hUG).row_other (cells 16 (limb (enc m0))) (show w.heap.size + 1 ≠ bL by omega)).up huE
   have gW : Win n s NX (nxt q M) := HNX.out ▸ HW.out.next (by omega) HLst2.out
   rw [<- HG1.out] at gRow
   rw [<- HG2.out] at gW
   clear hS1 hSB hSS hwG hwX huE hON hUG
   go_wp2_with fail
   go_roundg (n - (k + 1))
   case measure => omega
   case rel => exact ⟨k + 1, NX, bN, hlt, Nat.le_refl _, rfl, by rw [show n - (k + 1) = s by omega]; exact gW, gO, gRow, gQ, gU⟩
  ·obtain rfl : k = n := by omega
   rw [Nat.sub_self] at hW
   have HRow : Hid (Row wr bL 107 16 (limb (enc (slD k l)))) := hid (by rw [<- HD.out.den]; exact hRow)
   clear hRow
   rw [hW.1] at hO
   have HW := hid hW
   have HO := hid hO
   clear hW hO
   go_wp2_with fail
   obtain ⟨wO, hwO⟩ : ∃ y, wr = y := ⟨_, rfl⟩
   rw [hwO] at hu hQ HRow HO ⊢
   clear hwO
   go_loopg [9, 34] k (fun g tn ti wr => ∃ i : Nat, i <= k /\ k - i <= g /\ ti = .int .i64 (i : Nat) /\ OwnW wr wO.heap.size tn ((slL k l x).take i) /\ Up wO wr)
   case atStart => exact ⟨0, Nat.zero_le _, by omega, rfl, by rw [List.take_zero]; exact OwnW.nil _ _, Up.refl _⟩
   case round =>
    obtain ⟨i, hi, hig, rfl, hN, hui⟩ := hrel
    by_cases hil : i < k
    ·obtain ⟨gR, cR, CR, hv, -, -, hBR, hE⟩ := HO.out.open (by rw [HW.out.1]; omega)
     injection hv with x1 x2 x3
     subst x1 x3
     obtain ⟨sF, hsF, hWF⟩ := hE i (by rw [HW.out.1]; exact hil)
     obtain ⟨hLF, hLFe⟩ := HW.out.2 i hil
     obtain ⟨gF, oF, cF, CF, hvF, hcF, hBF, htF⟩ := hWF.1.open (by rw [hLF]; omega)
     subst hvF
     rw [hLF] at hsF
     have HRng : Hid (∀ w', Blk w' gF 107 CF -> w'.rangeAt gF oF (wc (slX k l x i))) := hid (fun w' hB => by
      have h := wx_range hB htF (i := 0) (by rw [hLF]; omega)
      rw [hLFe 0 (by omega), Nat.zero_mul] at h
      exact h)
     have hcx := (hBR.up hui).cell _ hsF
     have hBFi := hBF.up hui
     have HT9 := hid (HSL.out i hil)
     have HTk : Hid (((slL k l x).take i).length < 1000000) := hid (by rw [List.length_take]; omega)
     have e1 : IntKind.i64.wrap ((i : Int) + 1) = (i : Int) + 1 := IntWalk.i64_in _ (by omega)
     have hszi := hui.size
     clear hLFe htF hWF hsF hE x2 hcF hLF
     generalize slX k l x i = z at *
     go_wp2_with (first
      | ((with_reducible apply ldW_P); exact rfl; exact rfl; exact HRng.out _ hBFi)
      | ((with_reducible apply bsW_P); exact rfl)
      | ((with_reducible apply appW (l := (slL k l x).take i) (m := [z])); exact rfl; exact rfl; exact OwnW.up (Up.alloc _ _) hN; exact one_range rfl; (focus (simp; omega)); exact HTk.out; (focus (simp; done)); rintro v6 w6 hO6 - hb6))
     go_roundg (k - (i + 1))
     case measure => omega
     case rel => exact ⟨i + 1, hil, Nat.le_refl _, rfl, by rw [HT9.out]; exact hO6, Below.trans (hui.trans (Up.alloc _ _)) hb6⟩
    ·obtain rfl : i = k := by omega
     rw [List.take_of_length_le (by rw [HSLn.out]; exact Nat.le_refl _)] at hN
     have hRow := HRow.out.up hui
     have hQr := hQ.up hui
     have hur := hu.trans hui
     have hszO := hu.size
     obtain ⟨pn, cn, rfl⟩ := hN.slice
     go_wp2_with fail
     refine opU (S := (fun wq => Up wr wq /\ Below w.heap.size w wq)) (req := (fun j => j != 3)) (fun _ _ h hu => ⟨(h.1).trans hu, below_up (h.2) hu⟩) ⟨(by first | exact Up.refl _ | assumption), gUp⟩ (fun wS hSS hSu => ?_)
     have ⟨hS1, hSB⟩ := hSS
     refine tkP 0 (some 45) hSu ?_
     refine tkT 1 (some 46) rfl hSu hSS ?_ (hy := fun w' hSw => run_ld undW infoW _ rfl _ rfl (hRow.up hSw.1))
     refine tkP 2 (some 4) hSu ?_
     refine wpAnyU_one (i := 3) rfl (by kernel_rfl) (by rfl) fun wX hwX => ?_
     refine wp_st_rowN infoW rfl _ _ rfl _ rfl rfl ((hQr.up (hS1.trans hwX))) ?_
     refine ⟨fun h => by simp at h, ?_⟩
     try simp only [Act.put, pu1, pu2, pu3]
     refine wpAnyU_done (by kernel_rfl) (fun wF huE => ?_) _
     have hUG := hS1.trans hwX
     have gQ := ((hQr.up hUG).setRow (limb (enc (slD i l)))).up huE
     have gU := Up.trans (below_setRow (hur.trans hUG) (show w.heap.size <= w.heap.size + 1 by omega) (cells 16 (limb (enc (slD i l))))) huE
     have gN := ((hN.up hUG).below (show w.heap.size + 1 < wO.heap.size by have := hQ.lt; omega) (cells 16 (limb (enc (slD i l))))).up huE
     clear hS1 hSB hSS hwX huE hUG
     go_wp2_with fail
     exact bodyPost_ret (resTC rfl _ _ rfl gQ) rfl ⟨.slice pn (slL i l x).length cn, _, rfl, gU, hszO, gN⟩
theorem infoF : (Tryz.prog.info? 109).map (fun i => (i.zero.map (·.cells.size), i.size, i.bytes)) = some (some 32, 32, 256) := by kernel_rfl
theorem infoF1 : (Tryz.prog.info? 109).map (·.size) = some 32 := by kernel_rfl
theorem undFs : Tryz.prog.underlying 103 = some (.slice 109) := by kernel_rfl
theorem undF0 : (match Tryz.prog.underlying 109 with | some (.struct _) => true | _ => false) = true := by kernel_rfl
theorem undF : ∃ fs, Tryz.prog.underlying 109 = some (.struct fs) := by
 have h := undF0
 split at h
 ·rename_i fs e; exact ⟨fs, e⟩
 ·cases h
def fA (z D : Int) : Array Value := cells 16 (limb (enc z)) ++ cells 16 (limb (enc D))
def fc (D z : Int) : List Value := wc z ++ wc D
def fcs (D : Int) (l : List Int) : List Value := l.flatMap (fc D)
theorem fA_list (z D : Int) : (fA z D).toList = fc D z := by unfold fA fc wc; simp
theorem fc_len (D z : Int) : (fc D z).length = 32 := by unfold fc; rw [List.length_append, wc_len, wc_len]
theorem fA_size (z D : Int) : (fA z D).size = 32 := by rw [<- Array.length_toList, fA_list, fc_len]
theorem fc_one (D z : Int) : ∀ u ∈ fc D z, u.oneCell' = true := fun u hu => by
 unfold fc at hu
 rcases List.mem_append.1 hu with h | h
 ·exact wc_one _ _ h
 ·exact wc_one _ _ h
theorem fcs_nil (D : Int) : fcs D [] = [] := rfl
theorem fcs_cons (D z : Int) (l : List Int) : fcs D (z :: l) = fc D z ++ fcs D l := rfl
theorem fcs_append (D : Int) (l m : List Int) : fcs D (l ++ m) = fcs D l ++ fcs D m := by unfold fcs; rw [List.flatMap_append]
theorem fcs_len (D : Int) (l : List Int) : (fcs D l).length = l.length * 32 := by
 induction l with
 | nil => rfl
 | cons z l ih => rw [fcs_cons, List.length_append, fc_len, ih, List.length_cons]; omega
theorem fcs_mid {D : Int} {l : List Int} {i j : Nat} (h : i < l.length) (hj : j < 32) : (fcs D l)[i * 32 + j]? = (fc D (zth l i))[j]? := by
 have h1 : (fcs D (l.take i)).length = i * 32 := by rw [fcs_len, List.length_take]; omega
 have e := congrArg (fcs D) (zth_split h)
 rw [fcs_append, fcs_cons] at e
 rw [e, List.getElem?_append_right (by omega), h1, show i * 32 + j - i * 32 = j by omega, List.getElem?_append_left (by rw [fc_len]; exact hj)]
def OwnF (w : World) (base : Nat) (v : Value) (D : Int) (l : List Int) : Prop := w.ownsRow base 109 32 v l.length (fcs D l)
theorem OwnF.up {w w' : World} {base : Nat} {v : Value} {D : Int} {l : List Int} (hu : Up w w') (h : OwnF w base v D l) : OwnF w' base v D l := World.ownsRow.up h hu
theorem OwnF.nil (w : World) (base : Nat) (D : Int) : OwnF w base (.slice none 0 0) D [] := World.ownsRow_nil _ _ _ _
def Fv (w : World) (v : Value) (D : Int) (l : List Int) : Prop :=
 (l = [] /\ ∃ p c, v = .slice p 0 c) \/ ∃ g cap C, v = .slice (some ⟨g, 0, none⟩) l.length cap /\ l.length <= cap /\ Blk w g 109 C /\ C.toList.take (l.length * 32) = fcs D l
theorem Fv.up {w w' : World} (hu : Up w w') {v : Value} {D : Int} {l : List Int} (h : Fv w v D l) : Fv w' v D l := by
 rcases h with h | ⟨g, cap, C, h1, h2, h3, h4⟩
 ·exact .inl h
 ·exact .inr ⟨g, cap, C, h1, h2, h3.up hu, h4⟩
theorem OwnF.fv {w : World} {base : Nat} {v : Value} {D : Int} {l : List Int} (h : OwnF w base v D l) : Fv w v D l := by
 obtain ⟨_, ⟨rfl, h0⟩ | ⟨g, cap, cur, rfl, _, hB, hc, _, _, ht⟩⟩ := h
 ·exact .inl ⟨List.length_eq_zero_iff.1 h0, _, _, rfl⟩
 ·exact .inr ⟨g, cap, cur, rfl, hc, hB, ht⟩
theorem Fv.nil (w : World) (D : Int) : Fv w (.slice none 0 0) D [] := .inl ⟨rfl, _, _, rfl⟩
theorem Fv.slice {w : World} {v : Value} {D : Int} {l : List Int} (h : Fv w v D l) : ∃ p c, v = .slice p l.length c := by
 rcases h with ⟨rfl, p, c, rfl⟩ | ⟨g, cap, C, rfl, _⟩
 ·exact ⟨p, c, rfl⟩
 ·exact ⟨_, cap, rfl⟩
theorem Fv.open {w : World} {v : Value} {D : Int} {l : List Int} (h : Fv w v D l) (h0 : 0 < l.length) :
   ∃ g cap C, v = .slice (some ⟨g, 0, none⟩) l.length cap /\ l.length <= cap /\ Blk w g 109 C /\ C.toList.take (l.length * 32) = fcs D l := by
 rcases h with ⟨rfl, _⟩ | h
 ·exact absurd h0 (by decide)
 ·exact h
theorem fv_range {w : World} {g : Nat} {C : Array Value} {D : Int} {l : List Int} (hB : Blk w g 109 C) (ht : C.toList.take (l.length * 32) = fcs D l) {i : Nat} (hi : i < l.length) : w.rangeAt g (i * 32) (fc D (zth l i)) := by
 intro j v hv
 have hj : j < 32 := by have := (List.getElem?_eq_some_iff.1 hv).1; rw [fc_len] at this; exact this
 refine hB.cell _ ?_
 have h1 : (C.toList.take (l.length * 32))[i * 32 + j]? = some v := by rw [ht, fcs_mid hi hj]; exact hv
 rw [List.getElem?_take_of_lt (by omega)] at h1
 rw [<- Array.getElem?_toList]
 exact h1
theorem fc_num {w : World} {g o : Nat} {D z : Int} (h : w.rangeAt g o (fc D z)) : w.rangeAt g o (wc z) := fun j v hv => by
 refine h j v ?_
 unfold fc
 rw [List.getElem?_append_left (List.getElem?_eq_some_iff.1 hv).1]
 exact hv
theorem fc_den {w : World} {g o : Nat} {D z : Int} (h : w.rangeAt g o (fc D z)) : w.rangeAt g (o + 16) (wc D) := fun j v hv => by
 have h1 := h (16 + j) v (by
  unfold fc
  rw [List.getElem?_append_right (by rw [wc_len]; omega), wc_len, show 16 + j - 16 = j by omega]
  exact hv)
 rw [Nat.add_assoc]
 exact h1
section
variable {a : Act} {w : World} {g off : Nat} {z D : Int}
theorem run_ldF {o : Oper} {ev : Operand -> Value} {x : Operand} (ho : o.op = .load 109 x) (hx : ev x = .pointer (some ⟨g, off, none⟩)) (hC : w.rangeAt g off (fc D z)) :
   (execOp ev o).run Tryz.prog w = .ok (.value (.agg (fA z D))) w := by
 obtain ⟨fs, hu⟩ := undF
 unfold execOp
 simp only [ho, hx, Instr.loadAt, Instr.sureAddr, Sem.run_bind, Sem.run_pure, Result.andThen_ok, run_loadVar_mid w g off _ (fc D z) _ hC hu rfl (by rw [infoF1, fc_len])]
 rw [<- fA_list, Array.toArray_toList]
theorem ldF_P {ops : Array Oper} {rest : List Oper} {Q : Exit -> Act -> World -> Prop} {d : Option Tmp} {s : Tmp} {ty : TypeId} {pos : String} {af : Array Edge} {gd : Option (Nat × Bool)} (hw : Region.wanted { dst := d, op := .load 109 (.tmp s), type := ty, pos := pos, after := af, guard := gd } (yielded ops a.tmps) = true) (hx : a.eval (.tmp s) = .pointer (some ⟨g, off, none⟩))
   (hC : w.rangeAt g off (fc D z)) (h : wpList Tryz.prog ops Q rest (a.put d (.agg (fA z D))) w) : wpList Tryz.prog ops Q ({ dst := d, op := .load 109 (.tmp s), type := ty, pos := pos, after := af, guard := gd } :: rest) a w :=
 wpList_run hw (run_ldF rfl hx hC) h
end
theorem blkF_range {w : World} {g : Nat} {z D : Int} (hB : Blk w g 109 (fA z D)) : w.rangeAt g 0 (fc D z) := fun j v hv => by
 rw [Nat.zero_add]
 refine hB.cell _ ?_
 rw [<- Array.getElem?_toList, fA_list]
 exact hv
theorem fA_one (z D : Int) : (fA z D).all (·.oneCell') = true := by
 rw [Array.all_eq_true_iff_forall_mem]
 intro u hu
 exact fc_one D z u (by rw [<- fA_list]; simpa using hu)
theorem stF_P {ops : Array Oper} {rest : List Oper} {Q : Exit -> Act -> World -> Prop} {a : Act} {w : World} {d : Option Tmp} {s u : Tmp} {ty : TypeId} {pos : String} {af : Array Edge} {g : Nat} {C : Array Value} {z D : Int} (hx : a.eval (.tmp s) = .pointer (some ⟨g, 0, none⟩)) (hy : a.eval (.tmp u) = .agg (fA z D)) (hC : Blk w g 109 C) (h2 : C.size = 32)
   (h : wpList Tryz.prog ops Q rest (a.put d undef) (w.setRow g (fA z D))) :
   wpList Tryz.prog ops Q ({ dst := d, op := .store 109 (.tmp s) (.tmp u), type := ty, pos := pos, after := af, guard := none } :: rest) a w :=
 wpList_plain rfl fun _ hK => wp_store_row _ _ _ rfl g (fA z D) hx hy _ C hC (by rw [infoF1, fA_size]) (by rw [h2, fA_size]) (fA_one z D) (hK _ _ h)
theorem run_buildF (f g : Nat -> Nat) (w : World) : (Instr.build 109 #[(0, .agg (cells 16 f)), (1, .agg (cells 16 g))]).run Tryz.prog w = .ok (.agg (cells 16 f ++ cells 16 g)) w := by
 unfold cells
 kernel_rfl
theorem bdF_P {ops : Array Oper} {rest : List Oper} {Q : Exit -> Act -> World -> Prop} {a : Act} {w : World} {d : Option Tmp} {s u : Tmp} {ty : TypeId} {pos : String} {af : Array Edge} {gd : Option (Nat × Bool)} {z D : Int}
   (hw : Region.wanted { dst := d, op := .build 109 #[(0, .tmp s), (1, .tmp u)], type := ty, pos := pos, after := af, guard := gd } (yielded ops a.tmps) = true) (hs : a.eval (.tmp s) = .agg (cells 16 (limb (enc z)))) (hu : a.eval (.tmp u) = .agg (cells 16 (limb (enc D))))
   (h : wpList Tryz.prog ops Q rest (a.put d (.agg (fA z D))) w) :
   wpList Tryz.prog ops Q ({ dst := d, op := .build 109 #[(0, .tmp s), (1, .tmp u)], type := ty, pos := pos, after := af, guard := gd } :: rest) a w := by
 refine wpList_run hw ?_ h
 unfold execOp
 simp only [List.map_toArray, List.map_cons, List.map_nil, hs, hu, Sem.run_bind, run_buildF, Result.andThen_ok, Sem.run_pure]
 rfl
theorem fill_oneF (f h : Nat -> Nat) (z : Array Value) : Instr.fill (fun i => some (i * 32, 32)) ((Array.range (1 * 32)).map (z[· % z.size]!)) [(0, .agg (cells 16 f ++ cells 16 h))] = some (cells 16 f ++ cells 16 h) := by
 unfold cells
 kernel_rfl
theorem bsF_P {ops : Array Oper} {rest : List Oper} {Q : Exit -> Act -> World -> Prop} {a : Act} {w : World} {d : Option Tmp} {s : Tmp} {ty : TypeId} {pos : String} {af : Array Edge} {z D : Int} (hs : a.eval (.tmp s) = .agg (fA z D))
   (h : wpList Tryz.prog ops Q rest (a.put d (.slice (some ⟨w.heap.size, 0, none⟩) 1 1)) (w.alloc (.cells (fA z D) 109))) :
   wpList Tryz.prog ops Q ({ dst := d, op := .buildSlice 103 1 #[(0, .tmp s)], type := ty, pos := pos, after := af, guard := none } :: rest) a w := by
 obtain ⟨i0, hi0, he⟩ := Option.map_eq_some_iff.1 infoF
 simp only [Prod.mk.injEq] at he
 obtain ⟨z0, hz0, hzs⟩ := Option.map_eq_some_iff.1 he.1
 refine wpList_buildSlice rfl 103 109 1 _ rfl (fA z D) i0 z0 undFs hi0 hz0 (by rw [he.2.1]; decide) (by rw [he.2.1]; decide) ?_ h
 simp only [List.map_toArray, List.map_cons, List.map_nil, hs, he.2.1]
 exact fill_oneF _ _ _
theorem appF {ops : Array Oper} {rest : List Oper} {Q : Exit -> Act -> World -> Prop} {a : Act} {w : World} {d : Option Tmp} {s u : Operand} {ty : TypeId} {pos : String} {af : Array Edge} {base g c : Nat} {v : Value} {D z : Int} {l : List Int}
   (hs : a.eval s = v) (hu : a.eval u = .slice (some ⟨g, 0, none⟩) 1 c) (hown : OwnF w base v D l) (hV : w.rangeAt g 0 (fc D z)) (hbase : base <= w.heap.size) (hl : l.length < 1000000)
   (h : ∀ v' w', OwnF w' base v' D (l ++ [z]) -> w.grownBy w' v.ownBlock -> Below base w w' -> wpList Tryz.prog ops Q rest (a.put d v') w') :
   wpList Tryz.prog ops Q ({ dst := d, op := .call { callee := .builtin .append, args := #[s, u], argTypes := #[103, 103] }, type := ty, pos := pos, after := af, guard := none } :: rest) a w := by
 obtain ⟨i0, hi0, he⟩ := Option.map_eq_some_iff.1 infoF
 simp only [Prod.mk.injEq] at he
 obtain ⟨z0, hz0, hzs⟩ := Option.map_eq_some_iff.1 he.1
 have hlt := World.ownsRow.lt hown
 refine wpList_append_own w rfl s u 103 rfl base 109 i0 z0 32 256 undFs hi0 hz0 he.2.1 he.2.2 hzs (by decide) v l.length (fcs D l) hs hown ⟨g, 0, none⟩ 1 c (fc D z) hu (fc_len D z) (fun j x hx => by rw [Addr.add_mid]; exact hV j x hx) (fc_one D z) (by unfold maxLen; omega) (by omega) hbase ?_
 intro v' w' h1 h2 _
 refine h v' w' (by unfold OwnF; rw [List.length_append, fcs_append]; rw [show fcs D [z] = fc D z from by rw [fcs_cons, fcs_nil, List.append_nil]]; exact h1) h2 ⟨h2.os, h2.tape, h2.output, h2.size, fun k hk => h2.block k (by omega) fun e => ?_⟩
 have := hlt k e.symm
 omega
theorem slC_def {N : Int} {l x : List Int} (h : slC N l x = 0) : ∃ n : Nat, N = (n : Int) /\ Def n l x /\ x.length = n := by
 unfold slC at h
 by_cases h1 : ftC N l [x] = 0
 ·rw [if_pos h1] at h
  unfold ftC at h1
  by_cases h2 : rt N l = true /\ ∀ i, i < [x].length -> (([x].getD i []).length : Int) = N
  ·rw [if_pos h2] at h1
   by_cases h3 : ∀ i, i < [x].length -> ([x].getD i []).all vfit = true
   ·by_cases h4 : dfV N l = true
    ·obtain ⟨n0, n8, _, _⟩ := rt_spec h2.1
     obtain ⟨n, rfl⟩ : ∃ n : Nat, N = (n : Int) := ⟨N.toNat, by omega⟩
     have hx : x.length = n := by have := h2.2 0 (by simp); simp at this; omega
     have h5 := h3 0 (by simp)
     refine ⟨n, rfl, ⟨h2.1, ?_, fun i => ?_⟩, hx⟩
     ·unfold dfV at h4
      have h6 := (Bool.and_eq_true_iff.1 h4).1
      have e : mnR (n : Int) l = mins n 1 (AM n l) := by unfold mnR; rw [if_pos h2.1]; rfl
      rw [e] at h6
      intro y hy
      exact of_decide_eq_true (List.all_eq_true.1 h6 y hy)
     ·by_cases hi : i < x.length
      ·have h7 := List.all_eq_true.1 h5 (zth x i) (by rw [zth_get hi]; exact List.getElem_mem _)
       exact of_decide_eq_true h7
      ·rw [zth_far (by omega)]; simp
    ·rw [if_neg h4] at h; omega
   ·rw [if_neg h3] at h1; omega
  ·rw [if_neg h2] at h1; omega
 ·rw [if_neg h1] at h; exact absurd h h1
def exL (N : Int) (l x : List Int) : List Int := if slC N l x = 0 then slL N.toNat l x else []
def ExactPost (w : World) (N : Int) (l x : List Int) (r : Ending) (w' : World) : Prop := ∃ z u, r = .returned (.tuple #[z, u]) /\ Up w w' /\ Fv w' z (slD N.toNat l) (exL N l x) /\ (slC N l x ≠ 0 -> z = .slice none 0 0) /\ ErrsP solveB w' u (slC N l x)
set_option maxHeartbeats 16000000 in
theorem exact_any {v xv : Value} {N : Int} {l x : List Int} {w : World} (hm : Sm w v N l) (hx : Vw w xv x) (hI : In64 x) (hs : x.length <= 1000) :
   Calls Tryz.prog 51 #[v, xv] w (ExactPost w N l x) := by
 have HSO := hid (fun w' (hu : Up w w') => solvable_any (hm.up hu) (hx.up hu) hI hs)
 have HSN := hid (fun (n : Nat) (hN : N = (n : Int)) (hD : Def n l x) (hxl : x.length = n) w' (hu : Up w w') => solution_any (hN ▸ hm.up hu) hD (hx.up hu) hxl hI)
 obtain ⟨px, cx, rfl, -, -⟩ := hx
 obtain ⟨s, rfl, ⟨p, cap, rfl, -, -⟩, -, -, -⟩ := hm
 obtain ⟨W0, hW0⟩ : ∃ W0, w.alloc (.cells #[.int .i64 N, .slice p l.length cap] 24) = W0 := ⟨_, rfl⟩
 have hB : Blk W0 w.heap.size 24 #[.int .i64 N, .slice p l.length cap] := by rw [<- hW0]; exact Blk.new _ _ rfl
 have hU : Up w W0 := by rw [<- hW0]; exact Up.alloc _ _
 unfold ExactPost
 obtain ⟨C, hC⟩ : ∃ C, slC N l x = C := ⟨_, rfl⟩
 obtain ⟨EX, hEX⟩ : ∃ y, exL N l x = y := ⟨_, rfl⟩
 obtain ⟨D, hDD⟩ : ∃ y, slD N.toNat l = y := ⟨_, rfl⟩
 have HC := hid hC
 have HEX := hid hEX
 have HDD := hid hDD
 rw [hC] at HSO ⊢
 rw [hEX, hDD]
 clear hC hI hs hEX hDD
 go_enter Tryz.func51, Tryz.ntmps51
 go_upto_region 2 with (first
  | ((with_reducible apply ldM_P); exact rfl; exact rfl; exact hB; exact rfl)
  | (go_at_call 84; (with_reducible refine (HSO.out _ hU).mono ?_); rintro r w1 ⟨u1, rfl, hu1, h1⟩; have hB1 := hB.up hu1; have hU1 := hU.trans hu1))
 rcases h1 with ⟨h0, rfl⟩ | ⟨h0, t, y, rfl, hE⟩
 ·obtain ⟨n, rfl, hD, hxl⟩ := slC_def (HC.out.trans h0)
  have hex : EX = slL n l x := by rw [<- HEX.out]; unfold exL; rw [if_pos (HC.out.trans h0)]; rfl
  have HE2 := hid hex
  have HD2 : Hid (slD n l = D) := hid HDD.out
  have hn8 := hD.n8
  have HSN2 := hid (HSN.out n rfl hD hxl)
  rw [hxl] at HSN2 ⊢
  have hln : (slL n l x).length = n := mk_len _ _
  have HLn := hid hln
  have HSL := hid (fun i (hi : i < n) => show (slL n l x).take (i + 1) = (slL n l x).take i ++ [slX n l x i] from mk_take_succ (fun i => slX n l x i) hi)
  have HAt := hid (fun i (hi : i < n) => show zth (slL n l x) i = slX n l x i from mk_at hi)
  have H0 := hid h0
  clear HSN hD hxl hex h0 hln
  rw [HD2.out] at HSN2
  unfold wideV at *
  go_wp2_with (first
   | ((with_reducible apply ldM_P); exact rfl; exact rfl; exact hB1; exact rfl)
   | (go_at_call 85; (with_reducible refine (HSN2.out _ hU1).mono ?_); rintro r w2 ⟨z2, b2, rfl, hu2, hb2, hO2⟩; obtain ⟨pz, cz, rfl⟩ := hO2.slice; have hU2 := hU1.trans hu2)
   | ((with_reducible apply st_rowP infoW); exact rfl; exact rfl; exact row_newz _ rfl
      refine wpL_folded (fun wd => Up w2 wd /\ Row wd w2.heap.size 107 16 (limb (enc D))) ⟨gUp, gRow⟩ ?_
      rintro wL ⟨hXL, hDen⟩
      have hO3 := hO2.up hXL
      have hU3 := hU2.trans hXL))
  rw [HLn.out] at hO3 ⊢
  obtain ⟨bD, hbD⟩ : ∃ y, w2.heap.size = y := ⟨_, rfl⟩
  rw [hbD] at hDen ⊢
  have HO3 := hid hO3
  clear hO3 hO2 hXL hU2 hu2 hb2 hW0 hB hU hB1 hu1 hU1 HSO HSN2 hbD
  go_wp2_with fail
  go_loopg [9, 26] n (fun g ta ti wr => ∃ i : Nat, i <= n /\ n - i <= g /\ ti = .int .i64 (i : Nat) /\ OwnF wr wL.heap.size ta D ((slL n l x).take i) /\ Up wL wr)
  case atStart => exact ⟨0, Nat.zero_le _, by omega, rfl, by rw [List.take_zero]; exact OwnF.nil _ _ _, Up.refl _⟩
  case round =>
   obtain ⟨i, hi, hig, rfl, hO, hu⟩ := hrel
   have hszu := hu.size
   by_cases hlt : i < n
   ·obtain ⟨gZ, cZ, CZ, hv, -, hBZ, -, -, -, htZ⟩ := HO3.out.open (by rw [HLn.out]; omega)
    injection hv with x1 x2 x3
    subst x1 x3
    have HRng : Hid (∀ w', Blk w' gZ 107 CZ -> w'.rangeAt gZ (i * 16) (wc (slX n l x i))) := hid (fun w' hB => HAt.out i hlt ▸ wv_range hB htZ (by rw [HLn.out]; exact hlt))
    have hBZr := hBZ.up hu
    have hDr := hDen.up hu
    have e1 : IntKind.i64.wrap ((i : Int) + 1) = (i : Int) + 1 := IntWalk.i64_in _ (by omega)
    have HT9 := hid (HSL.out i hlt)
    have HTk : Hid (((slL n l x).take i).length < 1000000) := hid (by rw [List.length_take]; omega)
    clear htZ x2 hBZ
    generalize slX n l x i = z at *
    go_wp2_with (first
     | ((with_reducible apply ldW_P); exact rfl; exact rfl; exact HRng.out _ hBZr)
     | ((with_reducible apply ld_rowP undW infoW); exact rfl; exact rfl; exact gRow)
     | ((with_reducible apply st_rowP infoW); exact rfl; exact rfl; exact row_newz _ rfl
        refine wpL_folded (fun wd => Up wr wd /\ Row wd wr.heap.size 107 16 (limb (enc z))) ⟨gUp, gRow⟩ ?_
        rintro wM ⟨hXM, hNum⟩
        have hDm := hDr.up hXM)
     | ((with_reducible apply bdF_P (z := z) (D := D)); exact rfl; exact rfl; exact rfl)
     | ((with_reducible apply bsF_P (z := z) (D := D)); exact rfl)
     | ((with_reducible apply appF (l := (slL n l x).take i) (z := z)); exact rfl; exact rfl; exact OwnF.up (hXM.trans (Up.alloc _ _)) hO; exact blkF_range (Blk.new _ _ rfl); (focus (have := hXM.size; simp; omega)); exact HTk.out; rintro v6 w6 hO6 - hb6))
    go_roundg (n - (i + 1))
    case measure => omega
    case rel => exact ⟨i + 1, hlt, Nat.le_refl _, rfl, by rw [HT9.out]; exact hO6, Below.trans (hu.trans (hXM.trans (Up.alloc _ _))) hb6⟩
   ·obtain rfl : i = n := by omega
    rw [List.take_of_length_le (by rw [HLn.out]; exact Nat.le_refl _)] at hO
    go_wp2_with fail
    go_ret2
    exact ⟨_, _, rfl, hU3.trans hu, by rw [HE2.out]; exact hO.fv, fun h => absurd H0.out h, .inl ⟨H0.out, rfl⟩⟩
 ·have HC2 := hid h0
  have HE2 : Hid (EX = []) := hid (by rw [<- HEX.out]; unfold exL; rw [HC.out]; exact if_neg h0)
  clear h0
  go_wp2_with fail
  go_ret2
  exact ⟨_, _, rfl, hU1, by rw [HE2.out]; exact Fv.nil _ _, fun _ => rfl, .inr ⟨HC2.out, t, y, rfl, hE⟩⟩
def nrN (D z : Int) : Int := (2 * z + D) / (2 * D)
theorem round_any {z D : Int} (hz : z.natAbs < bp 5) (hD : D.natAbs < bp 5) (h0 : 0 < D) (w : World) :
   Calls Tryz.prog 73 #[wideV (enc z), wideV (enc D)] w fun r w' => r = .returned (.tuple #[wideV (enc (nrN D z)), .bool true]) /\ Up w w' := by
 have e6 : bp 6 = bp 5 * 18446744073709551616 := bp_succ 5
 have i1 : InR (z + z) := inR_bp (k := 6) (by omega) (by omega)
 have i2 : InR (D + D) := inR_bp (k := 6) (by omega) (by omega)
 have i3 : InR (z + z + D) := inR_bp (k := 6) (by omega) (by omega)
 have h := round_z (inR_bp (by omega) hz) (inR_bp (by omega) hD) (fun _ _ h2 h3 w => divide_any (enc_natAbs h3).2 (enc_natAbs h2).2 (by omega) w) w
 rw [show roundV z D = .tuple #[wideV (enc (nrN D z)), .bool true] from by unfold roundV nrN; rw [if_pos ⟨h0, i1, i2, i3⟩]] at h
 exact h
theorem nrN_in {z D : Int} (hz : z.natAbs < bp 5) (h0 : 0 < D) : InR (nrN D z) := by
 unfold nrN
 have e6 : bp 6 = bp 5 * 18446744073709551616 := bp_succ 5
 refine inR_bp (k := 6) (by omega) ?_
 have h1 : -(2 * z.natAbs : Nat) <= ((2 * z + D) / (2 * D)) := by
  refine (Int.le_ediv_iff_mul_le (by omega)).2 ?_
  have h2 : -((2 * z.natAbs : Nat) : Int) * (2 * D) <= -((2 * z.natAbs : Nat) : Int) * 1 := Int.mul_le_mul_of_nonpos_left (by omega) (by omega)
  omega
 have h3 : ((2 * z + D) / (2 * D)) <= ((2 * z.natAbs + 1 : Nat) : Int) := by
  refine Int.le_of_lt_add_one ((Int.ediv_lt_iff_lt_mul (by omega)).2 ?_)
  have h2 : (((2 * z.natAbs + 1 : Nat) : Int) + 1) * D <= (((2 * z.natAbs + 1 : Nat) : Int) + 1) * (2 * D) := Int.mul_le_mul_of_nonneg_left (by omega) (by omega)
  have h4 : ((2 * z.natAbs : Nat) : Int) * 1 <= ((2 * z.natAbs : Nat) : Int) * D := Int.mul_le_mul_of_nonneg_left (by omega) (by omega)
  have h5 : (((2 * z.natAbs + 1 : Nat) : Int) + 1) * D = ((2 * z.natAbs : Nat) : Int) * D + 2 * D := by
   rw [show ((2 * z.natAbs + 1 : Nat) : Int) + 1 = ((2 * z.natAbs : Nat) : Int) + 2 by omega, Int.add_mul]
  omega
 omega
set_option maxHeartbeats 4000000 in
theorem nearest_any {z D : Int} (hz : z.natAbs < bp 5) (hD : D.natAbs < bp 5) (h0 : 0 < D) (w : World) :
   Calls Tryz.prog 52 #[.agg (fA z D)] w fun r w' => r = .returned (i64V (nrN D z)) /\ Up w w' := by
 have HR := hid (fun w => round_any hz hD h0 w)
 have HI := hid (fun w => int64_z (nrN_in hz h0) w)
 obtain ⟨wS, hwS⟩ : ∃ x, w.alloc (.cells (fA z D) 109) = x := ⟨_, rfl⟩
 have hB : Blk wS w.heap.size 109 (fA z D) := by rw [<- hwS]; exact Blk.new _ _ rfl
 have hU : Up w wS := by rw [<- hwS]; exact Up.alloc _ _
 have hN := fc_num (blkF_range hB)
 have hDn := fc_den (blkF_range hB)
 rw [Nat.zero_add] at hDn
 have HN := hid hN
 have HDn := hid hDn
 obtain ⟨n, hn⟩ : ∃ n, nrN D z = n := ⟨_, rfl⟩
 rw [hn] at HR HI ⊢
 obtain ⟨y, ok, hy⟩ : ∃ y ok, i64V n = .tuple #[.int .i64 y, .bool ok] := ⟨_, _, rfl⟩
 rw [hy] at HI ⊢
 clear hn hy hN hDn hz hD h0 hB
 unfold wideV at *
 go_enter Tryz.func52, Tryz.ntmps52
 go_wp2_with (first
  | ((with_reducible apply ldW_P); exact rfl; exact rfl; (first | exact HN.out | exact HDn.out))
  | ((with_reducible apply ld_rowP undW infoW); exact rfl; exact rfl; exact gRow)
  | ((with_reducible apply st_rowP infoW); exact rfl; exact rfl; exact row_newz _ rfl
     refine wpL_folded (fun wd => Up w1 wd /\ Row wd w1.heap.size 107 16 (limb (enc n))) ⟨gUp, gRow⟩ ?_
     rintro wL ⟨hXL, hL⟩)
  | (go_at_call 73; (with_reducible refine (HR.out _).mono ?_); rintro r w1 ⟨rfl, hu1⟩)
  | (go_at_call 75; (with_reducible refine (HI.out _).mono ?_); rintro r w2 ⟨rfl, hu2⟩))
 go_ret2
 exact ⟨rfl, (hU.trans hu1).trans (hXL.trans hu2)⟩
def AllR (l : List Int) : Prop := ∀ x ∈ l, InR x
theorem inR0 : InR 0 := InR.mk' (by have := hb_pos; omega)
theorem AllR.nil : AllR [] := fun _ h => absurd h List.not_mem_nil
theorem AllR.app {l : List Int} {z : Int} (h : AllR l) (hz : InR z) : AllR (l ++ [z]) := fun x hx => by
 rcases List.mem_append.1 hx with h1 | h1
 ·exact h x h1
 ·rw [List.mem_singleton.1 h1]; exact hz
theorem AllR.at {l : List Int} (h : AllR l) {i : Nat} (hi : i < l.length) : InR (zth l i) := by
 rw [zth_get hi]; exact h _ (List.getElem_mem _)
theorem quot_in {s d : Int} (hs : InR s) (hd : 0 < d) : InR (s / d) := by
 have h := hs.out
 by_cases h0 : 0 <= s
 ·have h1 := Int.ediv_nonneg h0 (Int.le_of_lt hd)
  have h2 := Int.ediv_le_self d h0
  exact InR.mk' (by omega)
 ·have h1 : s / d < 0 := Int.ediv_neg_of_neg_of_pos (by omega) hd
  have h2 : s <= s / d := (Int.le_ediv_iff_mul_le hd).2 (by
   have := Int.mul_le_mul_of_nonpos_left (a := s) (by omega) (show 1 <= d by omega)
   omega)
  exact InR.mk' (by omega)
theorem mul_w {a b : Int} (ha : InR a) (hb' : InR b) : ∃ z k, InR z /\ ∀ w, Calls Tryz.prog 99 #[wideV (enc a), wideV (enc b)] w fun e w' => e = .returned (.tuple #[wideV (enc z), .bool k]) /\ Up w w' := by
 obtain ⟨p, k, e, i, -, -⟩ := opt_parts (a * b)
 exact ⟨p, k, i, fun w => e ▸ mul_z ha hb' w⟩
theorem add_w {a b : Int} (ha : InR a) (hb' : InR b) : ∃ z k, InR z /\ ∀ w, Calls Tryz.prog 101 #[wideV (enc a), wideV (enc b)] w fun e w' => e = .returned (.tuple #[wideV (enc z), .bool k]) /\ Up w w' := by
 obtain ⟨p, k, e, i, -, -⟩ := opt_parts (a + b)
 exact ⟨p, k, i, fun w => e ▸ add_z ha hb' w⟩
theorem sub_w {a b : Int} (ha : InR a) (hb' : InR b) : ∃ z k, InR z /\ ∀ w, Calls Tryz.prog 100 #[wideV (enc a), wideV (enc b)] w fun e w' => e = .returned (.tuple #[wideV (enc z), .bool k]) /\ Up w w' := by
 obtain ⟨p, k, e, i, -, -⟩ := opt_parts (a - b)
 exact ⟨p, k, i, fun w => e ▸ sub_z ha hb' w⟩
theorem round_w {a b : Int} (ha : InR a) (hb' : InR b) : ∃ z k, InR z /\ ∀ w, Calls Tryz.prog 73 #[wideV (enc a), wideV (enc b)] w fun e w' => e = .returned (.tuple #[wideV (enc z), .bool k]) /\ Up w w' := by
 have h := fun w => round_z ha hb' (fun h0 _ h2 h3 w => divide_any (enc_natAbs h3).2 (enc_natAbs h2).2 (by omega) w) w
 by_cases hc : 0 < b /\ InR (a + a) /\ InR (b + b) /\ InR (a + a + b)
 ·refine ⟨(2 * a + b) / (2 * b), true, ?_, fun w => ?_⟩
  ·rw [show 2 * a + b = a + a + b from by omega]; exact quot_in hc.2.2.2 (by have := hc.1; omega)
  ·have h1 := h w
   rw [show roundV a b = _ from if_pos hc] at h1
   exact h1
 ·refine ⟨0, false, inR0, fun w => ?_⟩
  have h1 := h w
  rw [show roundV a b = _ from if_neg hc, zero_limb] at h1
  exact h1
theorem of_w {v : Int} (h : I64 v) : InR v := inR_bp (k := 1) (by omega) (i64_bp h)
theorem i64_w {z : Int} (hz : InR z) : ∃ y k, I64 y /\ ∀ w, Calls Tryz.prog 75 #[wideV (enc z)] w fun e w' => e = .returned (.tuple #[.int .i64 y, .bool k]) /\ Up w w' := by
 refine ⟨_, _, ?_, fun w => int64_z hz w⟩
 unfold I64
 split <;> omega
def Ws (w : World) (v : Value) (n : Nat) : Prop := ∃ l, Wv w v l /\ l.length = n /\ AllR l
theorem Ws.up {w w' : World} (hu : Up w w') {v : Value} {n : Nat} (h : Ws w v n) : Ws w' v n := by
 obtain ⟨l, h1, h2⟩ := h
 exact ⟨l, h1.up hu, h2⟩
theorem Ws.slice {w : World} {v : Value} {n : Nat} (h : Ws w v n) : ∃ p c, v = .slice p n c := by
 obtain ⟨l, h1, rfl, -⟩ := h
 exact h1.slice
theorem Ws.open {w : World} {v : Value} {n : Nat} (h : Ws w v n) (h0 : 0 < n) :
   ∃ g cap C, v = .slice (some ⟨g, 0, none⟩) n cap /\ Blk w g 107 C /\ ∀ i, i < n -> ∃ z, InR z /\ ∀ w', Blk w' g 107 C -> w'.rangeAt g (i * 16) (wc z) := by
 obtain ⟨l, h1, rfl, h3⟩ := h
 obtain ⟨g, cap, C, e, -, hB, ht⟩ := h1.open h0
 exact ⟨g, cap, C, e, hB, fun i hi => ⟨zth l i, h3.at hi, fun w' hB' => wv_range hB' ht hi⟩⟩
theorem Wv.kept {w w' : World} {b : Nat} {t : TypeId} {D : Array Value} (hb : Blk w b t D) (ht : t ≠ 107) (hg : w.grownBy w' (some b)) {v : Value} {l : List Int} (h : Wv w v l) : Wv w' v l := by
 rcases h with h | ⟨g, cap, C, h1, h2, h3, h4⟩
 ·exact .inl h
 ·refine .inr ⟨g, cap, C, h1, h2, ?_, h4⟩
  unfold Blk at *
  rw [hg.block g (Array.getElem?_eq_some_iff.1 h3).1 ?_]
  ·exact h3
  ·intro e
   injection e with e
   subst e
   rw [h3] at hb
   simp at hb
   exact ht hb.2.symm
theorem Ws.kept {w w' : World} {b : Nat} {t : TypeId} {D : Array Value} (hb : Blk w b t D) (ht : t ≠ 107) (hg : w.grownBy w' (some b)) {v : Value} {n : Nat} (h : Ws w v n) : Ws w' v n := by
 obtain ⟨l, h1, h2⟩ := h
 exact ⟨l, h1.kept hb ht hg, h2⟩
def OwnWs (w : World) (base : Nat) (v : Value) (n : Nat) : Prop := ∃ l, OwnW w base v l /\ l.length = n /\ AllR l
theorem OwnWs.up {w w' : World} (hu : Up w w') {base : Nat} {v : Value} {n : Nat} (h : OwnWs w base v n) : OwnWs w' base v n := by
 obtain ⟨l, h1, h2⟩ := h
 exact ⟨l, h1.up hu, h2⟩
theorem OwnWs.nil (w : World) (base : Nat) : OwnWs w base (.slice none 0 0) 0 := ⟨[], OwnW.nil _ _, rfl, AllR.nil⟩
theorem OwnWs.ws {w : World} {base : Nat} {v : Value} {n : Nat} (h : OwnWs w base v n) : Ws w v n := by
 obtain ⟨l, h1, h2⟩ := h
 exact ⟨l, h1.wv, h2⟩
theorem OwnWs.slice {w : World} {base : Nat} {v : Value} {n : Nat} (h : OwnWs w base v n) : ∃ p c, v = .slice p n c := h.ws.slice
theorem appWs {ops : Array Oper} {rest : List Oper} {Q : Exit -> Act -> World -> Prop} {a : Act} {w : World} {d : Option Tmp} {s u : Operand} {ty : TypeId} {pos : String} {af : Array Edge} {base g c n : Nat} {v : Value} {z : Int}
   (hs : a.eval s = v) (hu : a.eval u = .slice (some ⟨g, 0, none⟩) 1 c) (hown : OwnWs w base v n) (hV : w.rangeAt g 0 (wcs [z])) (hz : InR z) (hbase : base <= w.heap.size) (hn : n < 1000000)
   (h : ∀ v' w', OwnWs w' base v' (n + 1) -> w.grownBy w' v.ownBlock -> Below base w w' -> wpList Tryz.prog ops Q rest (a.put d v') w') :
   wpList Tryz.prog ops Q ({ dst := d, op := .call { callee := .builtin .append, args := #[s, u], argTypes := #[124, 124] }, type := ty, pos := pos, after := af, guard := none } :: rest) a w := by
 obtain ⟨l, h1, rfl, h3⟩ := hown
 exact appW (l := l) (m := [z]) hs hu h1 hV hbase hn (by simp) fun v' w' g1 g2 g3 => h v' w' ⟨l ++ [z], g1, by simp, h3.app hz⟩ g2 g3
def Rs (w : World) (v : Value) (m n : Nat) : Prop :=
 (m = 0 /\ ∃ p c, v = .slice p 0 c) \/ ∃ g cap C, v = .slice (some ⟨g, 0, none⟩) m cap /\ Blk w g 124 C /\ ∀ i, i < m -> ∃ s, C[i]? = some s /\ Ws w s n
theorem Rs.up {w w' : World} (hu : Up w w') {v : Value} {m n : Nat} (h : Rs w v m n) : Rs w' v m n := by
 rcases h with h | ⟨g, cap, C, h1, h2, h3⟩
 ·exact .inl h
 ·exact .inr ⟨g, cap, C, h1, h2.up hu, fun i hi => by obtain ⟨s, h4, h5⟩ := h3 i hi; exact ⟨s, h4, h5.up hu⟩⟩
theorem Rs.slice {w : World} {v : Value} {m n : Nat} (h : Rs w v m n) : ∃ p c, v = .slice p m c := by
 rcases h with ⟨rfl, h⟩ | ⟨g, cap, C, h1, -⟩
 ·exact h
 ·exact ⟨_, _, h1⟩
theorem Rs.open {w : World} {v : Value} {m n : Nat} (h : Rs w v m n) (h0 : 0 < m) : ∃ g cap C, v = .slice (some ⟨g, 0, none⟩) m cap /\ Blk w g 124 C /\ ∀ i, i < m -> ∃ s, C[i]? = some s /\ Ws w s n := by
 rcases h with ⟨rfl, -⟩ | h
 ·omega
 ·exact h
theorem Rs.kept {w w' : World} {b : Nat} {t : TypeId} {D : Array Value} (hb : Blk w b t D) (ht : t ≠ 107) (ht2 : t ≠ 124) (hg : w.grownBy w' (some b)) {v : Value} {m n : Nat} (h : Rs w v m n) : Rs w' v m n := by
 rcases h with h | ⟨g, cap, C, h1, h2, h3⟩
 ·exact .inl h
 ·refine .inr ⟨g, cap, C, h1, ?_, fun i hi => by obtain ⟨s, h4, h5⟩ := h3 i hi; exact ⟨s, h4, h5.kept hb ht hg⟩⟩
  unfold Blk at *
  rw [hg.block g (Array.getElem?_eq_some_iff.1 h2).1 ?_]
  ·exact h2
  ·intro e
   injection e with e
   subst e
   rw [h2] at hb
   simp at hb
   exact ht2 hb.2.symm
def WV (v : Value) : Prop := ∃ z, InR z /\ v = .agg (cells 16 (limb (enc z)))
def oneF (i : Nat) : Nat := if i = 3 then 1 else 0
theorem e3cells : ∃ z, InR z /\ cells 16 (limb (enc z)) = #[.int .u64 0, .int .u64 0, .int .u64 0, .int .u64 1, .int .u64 0, .int .u64 0, .int .u64 0, .int .u64 0, .int .u64 0, .int .u64 0, .int .u64 0, .int .u64 0, .int .u64 0, .int .u64 0, .int .u64 0, .int .u64 0] := by
 have hf : ∀ i, i < 16 -> oneF i < 18446744073709551616 := fun i _ => by
  unfold oneF
  split <;> omega
 obtain ⟨z, hz, he⟩ := enc_surj (sumL_lt hf)
 refine ⟨z, hz, ?_⟩
 rw [he, cells_congr (f := limb (sumL oneF 16)) (g := oneF) fun i hi => limb_sumL hf hi]
 kernel_rfl
theorem cgone_w : ∃ z, InR z /\ ∀ w, Calls Tryz.prog 74 #[] w fun e w' => e = .returned (wideV (enc z)) /\ Up w w' := by
 obtain ⟨z, hz, he⟩ := e3cells
 refine ⟨z, hz, fun w => ?_⟩
 have HE := hid he
 obtain ⟨W0, hW0⟩ : ∃ y, w.alloc (.cells (cells 16 (fun _ => 0)) 107) = y := ⟨_, rfl⟩
 have hB : Row W0 w.heap.size 107 16 (fun _ => 0) := by rw [<- hW0]; exact Blk.new _ _ rfl
 have hU : Up w W0 := by rw [<- hW0]; exact Up.alloc _ _
 rw [<- zeros16] at hW0
 clear he hz
 unfold wideV
 go_enter Tryz.func74, Tryz.ntmps74
 go_wp2_with (first
  | ((with_reducible apply st_rowP infoW (v := limb (enc z))); exact rfl; (focus (rw [HE.out]; exact rfl)); exact hB))
 exact bodyPost_ret (res1 rfl undW infoW _ _ rfl (Row.setRow hB _)) rfl ⟨rfl, below_setRow hU (Nat.le_refl _) _⟩
theorem cgminus_w {a : Int} (ha : InR a) : ∃ z, InR z /\ ∀ w, Calls Tryz.prog 72 #[wideV (enc a)] w fun e w' => e = .returned (wideV (enc z)) /\ Up w w' := by
 obtain ⟨z, k, hz, HS⟩ := sub_w inR0 ha
 refine ⟨z, hz, fun w => ?_⟩
 have HS := hid HS
 have e0 : cells 16 (limb (enc 0)) = #[.int .u64 0, .int .u64 0, .int .u64 0, .int .u64 0, .int .u64 0, .int .u64 0, .int .u64 0, .int .u64 0, .int .u64 0, .int .u64 0, .int .u64 0, .int .u64 0, .int .u64 0, .int .u64 0, .int .u64 0, .int .u64 0] := by rw [<- zero_limb, zeros16]
 unfold wideV at *
 rw [e0] at HS
 clear e0 ha hz
 go_enter Tryz.func72, Tryz.ntmps72
 go_wp2_with (first
  | ((with_reducible apply ld_rowP undW infoW); exact rfl; exact rfl; exact gRow)
  | ((with_reducible apply st_rowP infoW); exact rfl; exact rfl; exact gRow) | ((with_reducible apply st_rowZ infoW); exact rfl; exact rfl; exact gRow)
  | (go_at_call 100; (with_reducible refine (HS.out _).mono ?_); rintro e w1 ⟨rfl, hu1⟩; have hs1 := hu1.size; (try simp at hs1)))
 exact bodyPost_ret (res1 rfl undW infoW _ _ rfl gRow) rfl ⟨rfl, gUp⟩
theorem parts_w {v : Int} (hv : I64 v) : ∃ z, InR z /\ ∀ w, Calls Tryz.prog 66 #[.int .i64 v] w fun e w' => e = .returned (wideV (enc z)) /\ Up w w' := by
 obtain ⟨o, ho, HO⟩ := cgone_w
 obtain ⟨z, k, hz, HM⟩ := mul_w (of_w hv) ho
 refine ⟨z, hz, fun w => ?_⟩
 have HO := hid HO
 have HM := hid HM
 have HF := hid (fun w => of_any v hv.1 hv.2 w)
 unfold wideV at *
 clear ho hz hv
 go_enter Tryz.func66, Tryz.ntmps66
 go_wp2_with (first
  | ((with_reducible apply ld_rowP undW infoW); exact rfl; exact rfl; exact gRow)
  | ((with_reducible apply st_rowP infoW); exact rfl; exact rfl; exact gRow) | ((with_reducible apply st_rowZ infoW); exact rfl; exact rfl; exact gRow)
  | (go_at_call 96; (with_reducible refine (HF.out _).mono ?_); rintro e w1 ⟨rfl, hu1⟩; have hs1 := hu1.size; (try simp at hs1))
  | (go_at_call 74; (with_reducible refine (HO.out _).mono ?_); rintro e w2 ⟨rfl, hu2⟩; have hs2 := hu2.size; (try simp at hs2))
  | (go_at_call 99; (with_reducible refine (HM.out _).mono ?_); rintro e w3 ⟨rfl, hu3⟩; have hs3 := hu3.size; (try simp at hs3)))
 exact bodyPost_ret (res1 rfl undW infoW _ _ rfl gRow) rfl ⟨rfl, gUp⟩
set_option maxHeartbeats 8000000 in
theorem dot_any {va vb : Value} {n : Nat} {w : World} (hA : Ws w va n) (hB : Ws w vb n) (hn : n <= 8) :
   Calls Tryz.prog 69 #[va, vb] w fun r w' => Up w w' /\ ∃ v, r = .returned v /\ WV v := by
 have HO := hid (fun (h0 : 0 < n) => hA.open h0)
 have HP := hid (fun (h0 : 0 < n) => hB.open h0)
 obtain ⟨pA, cA, rfl⟩ := hA.slice
 obtain ⟨pB, cB, rfl⟩ := hB.slice
 obtain ⟨wS, hwS⟩ : ∃ y, w.alloc (.cells (cells 16 (fun _ => 0)) 107) = y := ⟨_, rfl⟩
 have hR : Row wS w.heap.size 107 16 (fun _ => 0) := by rw [<- hwS]; exact Blk.new _ _ rfl
 have hUS : Up w wS := by rw [<- hwS]; exact Up.alloc _ _
 obtain ⟨wI, hwI⟩ : ∃ y, wS.alloc (.cells (cells 16 (fun _ => 0)) 107) = y := ⟨_, rfl⟩
 have hG0 : Row wI wS.heap.size 107 16 (limb (enc 0)) := by rw [<- hwI]; show Blk _ _ _ (cells 16 (limb (enc 0))); rw [<- zero_limb]; exact Blk.new _ _ rfl
 have hUI : Up wS wI := by rw [<- hwI]; exact Up.alloc _ _
 rw [<- zeros16] at hwS hwI
 obtain ⟨bG, hbG⟩ : ∃ y, wS.heap.size = y := ⟨_, rfl⟩
 rw [hbG] at hG0
 have HbG := hid (show wS.heap.size <= bG /\ w.heap.size <= bG from ⟨by omega, by have := hUS.size; omega⟩)
 clear hA hB
 unfold wideV at *
 go_enter Tryz.func69, Tryz.ntmps69
 go_wp2_with fail
 try rw [hbG]
 clear hwS hwI hbG
 go_loopg [11] n (fun g ti wr => ∃ (i : Nat) (S : Int), i <= n /\ n - i <= g /\ ti = .int .i64 (i : Nat) /\ InR S /\ Row wr bG 107 16 (limb (enc S)) /\ Up wS wr)
 case atStart => exact ⟨0, 0, Nat.zero_le _, by omega, rfl, inR0, hG0, hUI⟩
 case round =>
  clear hG0 hUI
  obtain ⟨i, S, hi, hig, rfl, hS, hG, hu⟩ := hrel
  by_cases hlt : i < n
  ·obtain ⟨gA, cA', CA, e1, hBA, hEA⟩ := HO.out (by omega)
   obtain ⟨gB, cB', CB, e2, hBB, hEB⟩ := HP.out (by omega)
   injection e1 with x1 x2 x3
   injection e2 with y1 y2 y3
   subst x1 x3 y1 y3
   obtain ⟨x, hx, hRx⟩ := hEA i hlt
   obtain ⟨y, hy, hRy⟩ := hEB i hlt
   obtain ⟨P, k1, hP, HM⟩ := mul_w hx hy
   obtain ⟨S2, k2, hS2, HAd⟩ := add_w hS hP
   have HM := hid HM
   have HAd := hid HAd
   have HRx := hid hRx
   have HRy := hid hRy
   have hBAr := hBA.up (hUS.trans hu)
   have hBBr := hBB.up (hUS.trans hu)
   have HS2 := hid hS2
   have e1 : IntKind.i64.wrap ((i : Int) + 1) = (i : Int) + 1 := IntWalk.i64_in _ (by omega)
   clear hEA hEB x2 y2 hx hy hRx hRy hP hS hS2 HO HP hBA hBB
   unfold wideV at *
   go_wp2_with fail
   refine opU (S := (fun wq => Up wr wq /\ Below w.heap.size w wq)) (req := (fun j => j != 13)) (fun _ _ h hu => ⟨(h.1).trans hu, below_up (h.2) hu⟩) ⟨(by first | exact Up.refl _ | assumption), gUp⟩ (fun wS hSS hSu => ?_)
   have ⟨hS1, hSB⟩ := hSS
   refine tkP 0 (some 15) hSu ?_
   refine tkP 1 (some 16) hSu ?_
   refine tkP 2 (some 17) hSu ?_
   refine tkT 3 (some 18) rfl hSu hSS ?_ (hy := fun w' hSw => run_ldW rfl rfl (HRx.out _ (hBAr.up hSw.1)))
   refine tkP 4 (some 19) hSu ?_
   refine tkP 5 (some 20) hSu ?_
   refine tkP 6 (some 21) hSu ?_
   refine tkT 7 (some 22) rfl hSu hSS ?_ (hy := fun w' hSw => run_ldW rfl rfl (HRy.out _ (hBBr.up hSw.1)))
   refine tkC 8 (some 23) rfl hSu hSS ?_ (hy := fun w' hSw => (HM.out _))
   refine tkP 9 (some 14) hSu ?_
   refine tkP 10 (some 24) hSu ?_
   refine tkP 11 (some 25) hSu ?_
   refine wpAnyU_allocW (i := 12) (d := (some 7)) rfl rfl (by kernel_rfl) (by rfl) rfl hSu.out fun w2 hw2 => ?_
   try simp only [Act.put, pu1, pu2, pu3]
   refine wpAnyU_one (i := 13) rfl (by kernel_rfl) (by rfl) fun w3 hw3 => ?_
   refine wp_st_rowN infoW rfl _ _ rfl _ rfl rfl ((Row.up (row_newc _ 16 _ rfl) hw3)) ?_
   refine ⟨fun h => by simp at h, ?_⟩
   try simp only [Act.put, pu1, pu2, pu3]
   refine tkP 14 (some 8) hSu ?_
   refine wpAnyU_done (by kernel_rfl) (fun wF huE => ?_) _
   have hP1 := ((Row.up (row_newc 107 16 (fun _ => 0) (rfl : w2.heap.size = w2.heap.size)) hw3).setRow (limb (enc P))).up huE
   have hx1 := up_var (hS1.trans hw2) hw3 huE
   clear hS1 hSB hSS hw2 hw3 huE
   obtain ⟨wA, hwA⟩ : ∃ x, wF = x := ⟨_, rfl⟩
   rw [hwA] at hP1 hx1 ⊢
   clear hwA
   obtain ⟨b1, hb1⟩ : ∃ x, w2.heap.size = x := ⟨_, rfl⟩
   rw [hb1] at hP1 ⊢
   clear hb1
   have hGA := hG.up hx1
   have huA := hu.trans hx1
   clear hG hu hx1 hBAr hBBr
   go_wp2_with (first
    | ((with_reducible apply ld_rowP undW infoW); exact rfl; exact rfl; (first | exact hGA | exact hP1))
    | (go_at_call 101; (with_reducible refine (HAd.out _).mono ?_); rintro r w6 ⟨rfl, hu6⟩)
    | ((with_reducible apply st_rowP infoW); exact rfl; exact rfl; exact hGA.up hu6))
   go_roundg (n - (i + 1))
   case measure => omega
   case rel => exact ⟨i + 1, S2, hlt, Nat.le_refl _, rfl, HS2.out, (hGA.up hu6).setRow _, below_setRow (huA.trans hu6) HbG.out.1 _⟩
  ·obtain rfl : i = n := by omega
   have hRr := hR.up hu
   have hUr := hUS.trans hu
   go_wp2_with (first
    | ((with_reducible apply ld_rowP undW infoW); exact rfl; exact rfl; exact hG)
    | ((with_reducible apply st_rowP infoW); exact rfl; exact rfl; exact hRr))
   exact bodyPost_ret (res1 rfl undW infoW _ _ rfl (Row.setRow hRr _)) rfl ⟨below_setRow hUr (by omega) _, _, rfl, S, hS, rfl⟩
set_option maxHeartbeats 8000000 in
theorem cgtimes_any {rv xv : Value} {n : Nat} {w : World} (hR : Rs w rv n n) (hX : Ws w xv n) (hn : n <= 8) :
   Calls Tryz.prog 68 #[rv, xv] w fun r w' => Up w w' /\ ∃ v, r = .returned v /\ ∃ b, w.heap.size <= b /\ OwnWs w' b v n := by
 have HR := hid (fun (h0 : 0 < n) => hR.open h0)
 have HX := hid (fun w' (hu : Up w w') s (hs : Ws w s n) => dot_any (hs.up hu) (hX.up hu) hn)
 obtain ⟨pR, cR, rfl⟩ := hR.slice
 obtain ⟨pX, cX, rfl⟩ := hX.slice
 clear hR hX
 go_enter Tryz.func68, Tryz.ntmps68
 go_wp2_with fail
 go_loopg [5, 10] n (fun g tr ti wr => ∃ k : Nat, k <= n /\ n - k <= g /\ ti = .int .i64 (k : Nat) /\ OwnWs wr w.heap.size tr k /\ Up w wr)
 case atStart => exact ⟨0, Nat.zero_le _, by omega, rfl, OwnWs.nil _ _, Up.refl _⟩
 case round =>
  obtain ⟨k, hk, hkg, rfl, hO, hu⟩ := hrel
  by_cases hlt : k < n
  ·obtain ⟨g, cap, C, e1, hB, hE⟩ := HR.out (by omega)
   injection e1 with x1 x2 x3
   subst x1 x3
   obtain ⟨s, h1, h2⟩ := hE k hlt
   have hcx := (hB.up hu).cell _ h1
   have HD := hid (fun w' (hu' : Up w w') => HX.out w' hu' s h2)
   obtain ⟨ps, cs, rfl⟩ := h2.slice
   have e1 : IntKind.i64.wrap ((k : Int) + 1) = (k : Int) + 1 := IntWalk.i64_in _ (by omega)
   have hsz := hu.size
   clear hE h1 h2 x2 hB HR HX
   go_wp2_with (first
    | (go_at_call 69; (with_reducible refine (HD.out _ hu).mono ?_); rintro r w3 ⟨hu3, _, rfl, z, hz, rfl⟩; have hs3 := hu3.size)
    | ((with_reducible apply bsW_P); exact rfl)
    | ((with_reducible apply appWs (z := z)); exact rfl; exact rfl; exact OwnWs.up (hu3.trans (Up.alloc _ _)) hO; exact one_range rfl; exact hz; (focus (simp; omega)); (focus omega); rintro v6 w6 hO6 - hb6))
   go_roundg (n - (k + 1))
   case measure => omega
   case rel => exact ⟨k + 1, hlt, Nat.le_refl _, rfl, hO6, Below.trans ((hu.trans hu3).trans (Up.alloc _ _)) hb6⟩
  ·obtain rfl : k = n := by omega
   go_wp2_with fail
   go_ret
   exact ⟨hu, _, rfl, _, Nat.le_refl _, hO⟩
set_option maxHeartbeats 16000000 in
theorem moved_any {va vd : Value} {n : Nat} {a b : Int} {w : World} (hA : Ws w va n) (hD : Ws w vd n) (ha : InR a) (hb' : InR b) (hn : n <= 8) :
   Calls Tryz.prog 71 #[va, vd, wideV (enc a), wideV (enc b)] w fun r w' => Up w w' /\ ∃ v, r = .returned v /\ ∃ b, w.heap.size <= b /\ OwnWs w' b v n := by
 have HO := hid (fun (h0 : 0 < n) => hA.open h0)
 have HP := hid (fun (h0 : 0 < n) => hD.open h0)
 obtain ⟨pA, cA, rfl⟩ := hA.slice
 obtain ⟨pD, cD, rfl⟩ := hD.slice
 obtain ⟨wS, hwS⟩ : ∃ y, w.alloc (.cells (cells 16 (limb (enc a))) 107) = y := ⟨_, rfl⟩
 have hNu : Row wS w.heap.size 107 16 (limb (enc a)) := by rw [<- hwS]; exact Blk.new _ _ rfl
 have hUS : Up w wS := by rw [<- hwS]; exact Up.alloc _ _
 obtain ⟨wI, hwI⟩ : ∃ y, wS.alloc (.cells (cells 16 (limb (enc b))) 107) = y := ⟨_, rfl⟩
 have hDe : Row wI wS.heap.size 107 16 (limb (enc b)) := by rw [<- hwI]; exact Blk.new _ _ rfl
 have hUI : Up wS wI := by rw [<- hwI]; exact Up.alloc _ _
 have hNu := hNu.up hUI
 have hU0 := hUS.trans hUI
 clear hA hD hUS hUI
 obtain ⟨bD, hbD⟩ : ∃ y, wS.heap.size = y := ⟨_, rfl⟩
 rw [hbD] at hDe
 unfold wideV at *
 go_enter Tryz.func71, Tryz.ntmps71
 go_wp2_with fail
 try rw [hbD]
 clear hwS hwI hbD
 go_loopg [9, 19] n (fun g tr ti wr => ∃ k : Nat, k <= n /\ n - k <= g /\ ti = .int .i64 (k : Nat) /\ OwnWs wr wI.heap.size tr k /\ Up wI wr)
 case atStart => exact ⟨0, Nat.zero_le _, by omega, rfl, OwnWs.nil _ _, Up.refl _⟩
 case round =>
  obtain ⟨i, hi, hig, rfl, hL, hu⟩ := hrel
  by_cases hlt : i < n
  ·obtain ⟨gA, cA', CA, e1, hBA, hEA⟩ := HO.out (by omega)
   obtain ⟨gB, cB', CB, e2, hBB, hEB⟩ := HP.out (by omega)
   injection e1 with x1 x2 x3
   injection e2 with y1 y2 y3
   subst x1 x3 y1 y3
   obtain ⟨x, hx, hRx⟩ := hEA i hlt
   obtain ⟨y, hy, hRy⟩ := hEB i hlt
   obtain ⟨P, k1, hP, HM⟩ := mul_w hy ha
   obtain ⟨B, k2, hBy, HRd⟩ := round_w hP hb'
   obtain ⟨S2, k3, hS2, HAd⟩ := add_w hx hBy
   have HM := hid HM
   have HRd := hid HRd
   have HAd := hid HAd
   have HRx := hid hRx
   have HRy := hid hRy
   have hBAr := hBA.up (hU0.trans hu)
   have hBBr := hBB.up (hU0.trans hu)
   have hNr := hNu.up hu
   have hDr := hDe.up hu
   have HS2 := hid hS2
   have e1 : IntKind.i64.wrap ((i : Int) + 1) = (i : Int) + 1 := IntWalk.i64_in _ (by omega)
   clear hEA hEB x2 y2 hx hy hRx hRy hP hBy hS2 HO HP hBA hBB ha hb' hNu hDe
   unfold wideV at *
   go_wp2_with fail
   refine opU (S := (fun wq => Up wr wq /\ Below w.heap.size w wq)) (req := (fun j => j != 10)) (fun _ _ h hu => ⟨(h.1).trans hu, below_up (h.2) hu⟩) ⟨(by first | exact Up.refl _ | assumption), gUp⟩ (fun wS hSS hSu => ?_)
   have ⟨hS1, hSB⟩ := hSS
   refine tkP 0 (some 23) hSu ?_
   refine tkP 1 (some 24) hSu ?_
   refine tkP 2 (some 25) hSu ?_
   refine tkT 3 (some 26) rfl hSu hSS ?_ (hy := fun w' hSw => run_ldW rfl rfl (HRy.out _ (hBBr.up hSw.1)))
   refine tkT 4 (some 27) rfl hSu hSS ?_ (hy := fun w' hSw => run_ld undW infoW _ rfl _ rfl (hNr.up hSw.1))
   refine tkC 5 (some 28) rfl hSu hSS ?_ (hy := fun w' hSw => (HM.out _))
   refine tkP 6 (some 22) hSu ?_
   refine tkP 7 (some 29) hSu ?_
   refine tkP 8 (some 30) hSu ?_
   refine wpAnyU_allocW (i := 9) (d := (some 11)) rfl rfl (by kernel_rfl) (by rfl) rfl hSu.out fun w2 hw2 => ?_
   try simp only [Act.put, pu1, pu2, pu3]
   refine wpAnyU_one (i := 10) rfl (by kernel_rfl) (by rfl) fun w3 hw3 => ?_
   refine wp_st_rowN infoW rfl _ _ rfl _ rfl rfl ((Row.up (row_newc _ 16 _ rfl) hw3)) ?_
   refine ⟨fun h => by simp at h, ?_⟩
   try simp only [Act.put, pu1, pu2, pu3]
   refine tkP 11 (some 12) hSu ?_
   refine wpAnyU_done (by kernel_rfl) (fun wF huE => ?_) _
   have hP1 := ((Row.up (row_newc 107 16 (fun _ => 0) (rfl : w2.heap.size = w2.heap.size)) hw3).setRow (limb (enc P))).up huE
   have hx1 := up_var (hS1.trans hw2) hw3 huE
   clear hS1 hSB hSS hw2 hw3 huE
   obtain ⟨wA, hwA⟩ : ∃ x, wF = x := ⟨_, rfl⟩
   rw [hwA] at hP1 hx1 ⊢
   clear hwA
   obtain ⟨b1, hb1⟩ : ∃ x, w2.heap.size = x := ⟨_, rfl⟩
   rw [hb1] at hP1 ⊢
   clear hb1
   have hDA := hDr.up hx1
   go_wp2_with (first
    | ((with_reducible apply ld_rowP undW infoW); exact rfl; exact rfl; (first | exact hP1 | exact hDA))
    | (go_at_call 73; (with_reducible refine (HRd.out _).mono ?_); rintro r w6 ⟨rfl, hu6⟩)
    | ((with_reducible apply st_rowP infoW); exact rfl; exact rfl; exact row_newz _ rfl
       refine wpL_folded (fun wd => Up w6 wd /\ Row wd w6.heap.size 107 16 (limb (enc B))) ⟨gUp, gRow⟩ ?_
       rintro w7 ⟨hu7, hP2⟩))
   have hx7 := hx1.trans (hu6.trans hu7)
   obtain ⟨b6, hb6⟩ : ∃ x, w6.heap.size = x := ⟨_, rfl⟩
   rw [hb6] at hP2 ⊢
   clear hb6 hP1 hx1 hDA hu6 hu7 hNr hDr hBBr
   have hBA7 := hBAr.up hx7
   have hu7 := hu.trans hx7
   have hL7 := hL.up hx7
   clear hBAr hu hL hx7
   refine opU (S := (fun wq => Up w7 wq /\ Below w.heap.size w wq)) (req := (fun j => j != 10)) (fun _ _ h hu => ⟨(h.1).trans hu, below_up (h.2) hu⟩) ⟨(by first | exact Up.refl _ | assumption), gUp⟩ (fun wS hSS hSu => ?_)
   have ⟨hS1, hSB⟩ := hSS
   refine tkP 0 (some 38) hSu ?_
   refine tkP 1 (some 39) hSu ?_
   refine tkP 2 (some 40) hSu ?_
   refine tkT 3 (some 41) rfl hSu hSS ?_ (hy := fun w' hSw => run_ldW rfl rfl (HRx.out _ (hBA7.up hSw.1)))
   refine tkT 4 (some 42) rfl hSu hSS ?_ (hy := fun w' hSw => run_ld undW infoW _ rfl _ rfl (hP2.up hSw.1))
   refine tkC 5 (some 43) rfl hSu hSS ?_ (hy := fun w' hSw => (HAd.out _))
   refine tkP 6 (some 37) hSu ?_
   refine tkP 7 (some 44) hSu ?_
   refine tkP 8 (some 45) hSu ?_
   refine wpAnyU_allocW (i := 9) (d := (some 15)) rfl rfl (by kernel_rfl) (by rfl) rfl hSu.out fun w2 hw2 => ?_
   try simp only [Act.put, pu1, pu2, pu3]
   refine wpAnyU_one (i := 10) rfl (by kernel_rfl) (by rfl) fun w3 hw3 => ?_
   refine wp_st_rowN infoW rfl _ _ rfl _ rfl rfl ((Row.up (row_newc _ 16 _ rfl) hw3)) ?_
   refine ⟨fun h => by simp at h, ?_⟩
   try simp only [Act.put, pu1, pu2, pu3]
   refine tkP 11 (some 16) hSu ?_
   refine wpAnyU_done (by kernel_rfl) (fun wF huE => ?_) _
   have hP3 := ((Row.up (row_newc 107 16 (fun _ => 0) (rfl : w2.heap.size = w2.heap.size)) hw3).setRow (limb (enc S2))).up huE
   have hx1 := up_var (hS1.trans hw2) hw3 huE
   clear hS1 hSB hSS hw2 hw3 huE
   obtain ⟨wB, hwB⟩ : ∃ x, wF = x := ⟨_, rfl⟩
   rw [hwB] at hP3 hx1 ⊢
   clear hwB
   obtain ⟨b2, hb2⟩ : ∃ x, w2.heap.size = x := ⟨_, rfl⟩
   rw [hb2] at hP3 ⊢
   clear hb2
   have hLB := hL7.up hx1
   have huB := hu7.trans hx1
   have hsB := huB.size
   clear hx1 hL7 hu7 hP2 hBA7
   go_wp2_with (first
    | ((with_reducible apply ld_rowP undW infoW); exact rfl; exact rfl; exact hP3)
    | ((with_reducible apply bsW_P); exact rfl)
    | ((with_reducible apply appWs (z := S2)); exact rfl; exact rfl; exact OwnWs.up (Up.alloc _ _) hLB; exact one_range rfl; exact HS2.out; (focus (simp; omega)); (focus omega); rintro v8 w8 hO8 - hb8))
   go_roundg (n - (i + 1))
   case measure => omega
   case rel => exact ⟨i + 1, hlt, Nat.le_refl _, rfl, hO8, Below.trans (huB.trans (Up.alloc _ _)) hb8⟩
  ·obtain rfl : i = n := by omega
   go_wp2_with fail
   go_ret
   exact ⟨hU0.trans hu, _, rfl, _, hU0.size, hL⟩
set_option maxHeartbeats 16000000 in
theorem rest_any {b n : Nat} {N : Int} {A vv rv xv lv dv : Value} {V : List Int} {w : World} (hb : Blk w b 126 #[.int .i64 N, A, vv, rv, xv, lv, dv]) (hV : Vw w vv V) (hVl : V.length = n) (hI : In64 V) (hR : Rs w rv n n) (hX : Ws w xv n) (hn : n <= 8) :
   Calls Tryz.prog 67 #[.pointer (some ⟨b, 0, none⟩)] w fun r w' => Up w w' /\ ∃ v, r = .returned v /\ ∃ b, w.heap.size <= b /\ OwnWs w' b v n := by
 have HT := hid (fun w' (hu : Up w w') => show Calls Tryz.prog 68 #[rv, xv] w' (fun r w'' => Up w' w'' /\ ∃ v, r = .returned v /\ Ws w'' v n) from (cgtimes_any (hR.up hu) (hX.up hu) hn).mono fun _ _ h => ⟨h.1, h.2.imp fun _ k => ⟨k.1, by obtain ⟨_, _, h⟩ := k.2; exact h.ws⟩⟩)
 have HV := hid (fun w' (hu : Up w w') i (hi : i < n) => show ∃ ad, vv.ownBlock ≠ none /\ (∃ c, vv = .slice (some ad) n c) /\ w'.cell? (ad.add i) = some (.int .i64 (zth V i)) from by
  obtain ⟨p, c, rfl, -, h2⟩ := hV.up hu
  obtain ⟨ad, rfl, h3⟩ := h2 i (by omega)
  exact ⟨ad, by simp [Value.ownBlock], ⟨c, by rw [hVl]⟩, h3⟩)
 have HI := hid (fun i (hi : i < n) => (hI i (by omega) : I64 (zth V i)))
 obtain ⟨pR, cR, rfl⟩ := hR.slice
 obtain ⟨pX, cX, rfl⟩ := hX.slice
 have hc3 := hb.cell 3 rfl
 have hc4 := hb.cell 4 rfl
 clear hV hI hR hX hVl
 go_enter Tryz.func67, Tryz.ntmps67
 go_wp2_with fail
 refine wp_region_sp (n := 42) 11 [8, 9, 10, 11, 12, 13, 14, 15, 16, 17, 18] [SP.is (.pointer (some ⟨b, 0, none⟩)), SP.is (.pointer (some ⟨b, 0, none⟩)), SP.is (.pointer (some ⟨b, 3, none⟩)), SP.is (.slice pR n cR), SP.is (.pointer (some ⟨b, 0, none⟩)), SP.is (.pointer (some ⟨b, 0, none⟩)), SP.is (.pointer (some ⟨b, 4, none⟩)), SP.is (.slice pX n cX), SP.of (fun v w1 => Ws w1 v n) (fun _ _ _ h hu => h.up hu), SP.is (.int .i64 (n : Nat)), SP.is (.int .i64 0)] (fun wq => wq.cell? ⟨b, 3, none⟩ = some (.slice pR n cR) /\ wq.cell? ⟨b, 4, none⟩ = some (.slice pX n cX) /\ Up w wq /\ Below w.heap.size w wq) (by kernel_rfl) (by rfl) (by kernel_rfl) (by kernel_rfl) (fun _ _ h hu => ⟨hu.cell (h.1), hu.cell (h.2.1), (h.2.2.1).trans hu, below_up (h.2.2.2) hu⟩) ⟨(by assumption), (by assumption), (by first | exact Up.refl _ | assumption), gUp⟩ (fun ev w9 hS9 i o hne hi hev => ?_) (fun gR wE hq hSE huE => ?_)
 ·have ⟨hS1, hS2, hS3, hSB⟩ := hS9
  have hcC := hev.const
  have hcF := hev.func
  have hcG := hev.global
  rcases i with _ | _ | _ | _ | _ | _ | _ | _ | _ | _ | _ | i
  ·obtain rfl := oI hi
   have e0 := hev.other 0 (by kernel_rfl)
   simp [Act.eval] at e0
   exact lV (.pointer (some ⟨b, 0, none⟩))
  ·obtain rfl := oI hi
   have e8 : ev (.tmp 8) = (.pointer (some ⟨b, 0, none⟩)) := hev.dep 0 8 (by kernel_rfl)
   exact lV (.pointer (some ⟨b, 0, none⟩))
  ·obtain rfl := oI hi
   have e9 : ev (.tmp 9) = (.pointer (some ⟨b, 0, none⟩)) := hev.dep 1 9 (by kernel_rfl)
   exact lV (.pointer (some ⟨b, 3, none⟩))
  ·obtain rfl := oI hi
   have e10 : ev (.tmp 10) = (.pointer (some ⟨b, 3, none⟩)) := hev.dep 2 10 (by kernel_rfl)
   exact leavesR_value (u := .slice pR n cR) (by go_simp) rfl
  ·obtain rfl := oI hi
   have e0 := hev.other 0 (by kernel_rfl)
   simp [Act.eval] at e0
   exact lV (.pointer (some ⟨b, 0, none⟩))
  ·obtain rfl := oI hi
   have e12 : ev (.tmp 12) = (.pointer (some ⟨b, 0, none⟩)) := hev.dep 4 12 (by kernel_rfl)
   exact lV (.pointer (some ⟨b, 0, none⟩))
  ·obtain rfl := oI hi
   have e13 : ev (.tmp 13) = (.pointer (some ⟨b, 0, none⟩)) := hev.dep 5 13 (by kernel_rfl)
   exact lV (.pointer (some ⟨b, 4, none⟩))
  ·obtain rfl := oI hi
   have e14 : ev (.tmp 14) = (.pointer (some ⟨b, 4, none⟩)) := hev.dep 6 14 (by kernel_rfl)
   exact leavesR_value (u := .slice pX n cX) (by go_simp) rfl
  ·obtain rfl := oI hi
   have e11 : ev (.tmp 11) = (.slice pR n cR) := hev.dep 3 11 (by kernel_rfl)
   have e15 : ev (.tmp 15) = (.slice pX n cX) := hev.dep 7 15 (by kernel_rfl)
   refine leavesR_call ?_ (HT.out _ hS3)
   go_simp
  ·obtain rfl := oI hi
   have e16 : (fun v w1 => Ws w1 v n) (ev (.tmp 16)) w9 := hev.dep 8 16 (by kernel_rfl)
   dsimp only at e16
   obtain ⟨v16, hv16⟩ : ∃ v, ev (.tmp 16) = v := ⟨_, rfl⟩
   rw [hv16] at e16
   obtain ⟨p7, c7, rfl⟩ := e16.slice; exact leavesR_value (u := .int .i64 (n : Nat)) (by go_simp) rfl
  ·obtain rfl := oI hi
   exact lV (.int .i64 0)
  ·exact absurd (show i + 11 < 11 from (Array.getElem?_eq_some_iff.1 hi).1) (by omega)
 have ⟨hS1, hS2, hS3, hSB⟩ := hSE
 have q0 : gR 8 = (.pointer (some ⟨b, 0, none⟩)) := hq 0 8 (by decide) (by kernel_rfl)
 have q1 : gR 9 = (.pointer (some ⟨b, 0, none⟩)) := hq 1 9 (by decide) (by kernel_rfl)
 have q2 : gR 10 = (.pointer (some ⟨b, 3, none⟩)) := hq 2 10 (by decide) (by kernel_rfl)
 have q3 : gR 11 = (.slice pR n cR) := hq 3 11 (by decide) (by kernel_rfl)
 have q4 : gR 12 = (.pointer (some ⟨b, 0, none⟩)) := hq 4 12 (by decide) (by kernel_rfl)
 have q5 : gR 13 = (.pointer (some ⟨b, 0, none⟩)) := hq 5 13 (by decide) (by kernel_rfl)
 have q6 : gR 14 = (.pointer (some ⟨b, 4, none⟩)) := hq 6 14 (by decide) (by kernel_rfl)
 have q7 : gR 15 = (.slice pX n cX) := hq 7 15 (by decide) (by kernel_rfl)
 have q8 : (fun v w1 => Ws w1 v n) (gR 16) wE := hq 8 16 (by decide) (by kernel_rfl)
 dsimp only at q8
 obtain ⟨v16, hv16⟩ : ∃ v, gR 16 = v := ⟨_, rfl⟩
 rw [hv16] at q8
 have q9 : gR 17 = (.int .i64 (n : Nat)) := hq 9 17 (by decide) (by kernel_rfl)
 have q10 : gR 18 = (.int .i64 0) := hq 10 18 (by decide) (by kernel_rfl)
 refine ⟨fun _ => ?_, fun o ho => by simp at ho⟩
 simp only [putL, List.map_cons, List.map_nil, q0, q1, q2, q3, q4, q5, q6, q7, hv16, q9, q10, Act.put, pu1, pu2, pu3]
 clear hq hSE q0 q1 q2 q3 q4 q5 q6 q7 q9 q10
 have HQ := hid (fun (h0 : 0 < n) => q8.open h0)
 obtain ⟨p7, c7, rfl⟩ := q8.slice
 have hU := hS3
 clear hS1 hS2 hSB huE hc3 hc4 q8
 go_wp2_with fail
 go_loopg [3, 18] n (fun g tr ti wr => ∃ k : Nat, k <= n /\ n - k <= g /\ ti = .int .i64 (k : Nat) /\ OwnWs wr wE.heap.size tr k /\ Up wE wr)
 case atStart => exact ⟨0, Nat.zero_le _, by omega, rfl, OwnWs.nil _ _, Up.refl _⟩
 case round =>
  obtain ⟨i, hi, hig, rfl, hL, hu⟩ := hrel
  by_cases hlt : i < n
  ·obtain ⟨gA, cA', CA, e1, hBA, hEA⟩ := HQ.out (by omega)
   injection e1 with x1 x2 x3
   subst x1 x3
   obtain ⟨x, hx, hRx⟩ := hEA i hlt
   obtain ⟨ad, -, ⟨cv, rfl⟩, hck⟩ := HV.out _ (hU.trans hu) i hlt
   have hvi := HI.out i hlt
   obtain ⟨P, hP, HPt⟩ := parts_w hvi
   obtain ⟨S2, k3, hS2, HSb⟩ := sub_w hP hx
   have HPt := hid HPt
   have HSb := hid HSb
   have HRx := hid hRx
   have hBAr := hBA.up hu
   have hbr := hb.up (hU.trans hu)
   have HS2 := hid hS2
   have e1 : IntKind.i64.wrap ((i : Int) + 1) = (i : Int) + 1 := IntWalk.i64_in _ (by omega)
   clear hEA x2 hx hRx hP hS2 HQ HV HI hBA hvi HT
   obtain ⟨vi, hvi⟩ : ∃ y, zth V i = y := ⟨_, rfl⟩
   rw [hvi] at hck HPt
   clear hvi
   unfold wideV at *
   go_wp2_with (first
    | ((with_reducible apply ldW_P (z := x)); exact rfl; exact rfl; exact HRx.out _ hBAr)
    | ((with_reducible apply st_rowP infoW); exact rfl; exact rfl; exact row_newz _ rfl
       refine wpL_folded (fun wd => Up wr wd /\ Row wd wr.heap.size 107 16 (limb (enc x))) ⟨gUp, gRow⟩ ?_
       rintro w7 ⟨hu7, hP2⟩
       have hck7 := hu7.cellEq hck
       have hc27 := (hbr.up hu7).cell 2 rfl
       have hL7 := hL.up hu7
       have hx7 := hu.trans hu7))
   obtain ⟨b6, hb6⟩ : ∃ x, wr.heap.size = x := ⟨_, rfl⟩
   rw [hb6] at hP2 ⊢
   clear hb6 hck hbr hBAr hL hu hu7 hb
   refine opU (S := (fun wq => Row wq b6 107 16 (limb (enc x)) /\ wq.cell? (ad.add i) = some (.int .i64 vi) /\ wq.cell? ⟨b, 2, none⟩ = some (.slice (some ad) n cv) /\ Up w7 wq /\ Below w.heap.size w wq)) (req := (fun j => j != 14)) (fun _ _ h hu => ⟨(h.1).up hu, hu.cell (h.2.1), hu.cell (h.2.2.1), (h.2.2.2.1).trans hu, below_up (h.2.2.2.2) hu⟩) ⟨gRow, (by first | assumption | (apply Blk.cell; exact gBlk; exact rfl)), (by first | assumption | (apply Blk.cell; exact gBlk; exact rfl)), (by first | exact Up.refl _ | assumption), gUp⟩ (fun wS hSS hSu => ?_)
   have ⟨hS1, hS2, hS3, hS4, hSB⟩ := hSS
   refine tkP 0 (some 24) hSu ?_
   refine tkP 1 (some 25) hSu ?_
   refine tkP 2 (some 26) hSu ?_
   refine tkT 3 (some 27) rfl hSu hSS ?_ (hy := fun w' hSw => by ((try dsimp only at hSw); (try obtain ⟨_, _, _, _, _⟩ := hSw); go_simp; (try exact rfl)))
   refine tkP 4 (some 28) hSu ?_
   refine tkP 5 (some 29) hSu ?_
   refine tkT 6 (some 30) rfl hSu hSS ?_ (hy := fun w' hSw => by ((try dsimp only at hSw); (try obtain ⟨_, _, _, _, _⟩ := hSw); go_simp; (try exact rfl)))
   refine tkC 7 (some 31) rfl hSu hSS ?_ (hy := fun w' hSw => (HPt.out _))
   refine tkT 8 (some 32) rfl hSu hSS ?_ (hy := fun w' hSw => run_ld undW infoW _ rfl _ rfl hSw.1)
   refine tkC 9 (some 33) rfl hSu hSS ?_ (hy := fun w' hSw => (HSb.out _))
   refine tkP 10 (some 23) hSu ?_
   refine tkP 11 (some 34) hSu ?_
   refine tkP 12 (some 35) hSu ?_
   refine wpAnyU_allocW (i := 13) (d := (some 6)) rfl rfl (by kernel_rfl) (by rfl) rfl hSu.out fun w2 hw2 => ?_
   try simp only [Act.put, pu1, pu2, pu3]
   refine wpAnyU_one (i := 14) rfl (by kernel_rfl) (by rfl) fun w3 hw3 => ?_
   refine wp_st_rowN infoW rfl _ _ rfl _ rfl rfl ((Row.up (row_newc _ 16 _ rfl) hw3)) ?_
   refine ⟨fun h => by simp at h, ?_⟩
   try simp only [Act.put, pu1, pu2, pu3]
   refine tkP 15 (some 7) hSu ?_
   refine wpAnyU_done (by kernel_rfl) (fun wF huE => ?_) _
   have hP3 := ((Row.up (row_newc 107 16 (fun _ => 0) (rfl : w2.heap.size = w2.heap.size)) hw3).setRow (limb (enc S2))).up huE
   have hx1 := up_var (hS4.trans hw2) hw3 huE
   clear hS1 hS2 hS3 hS4 hSB hSS hw2 hw3 huE
   obtain ⟨wB, hwB⟩ : ∃ x, wF = x := ⟨_, rfl⟩
   rw [hwB] at hP3 hx1 ⊢
   clear hwB
   obtain ⟨b2, hb2⟩ : ∃ x, w2.heap.size = x := ⟨_, rfl⟩
   rw [hb2] at hP3 ⊢
   clear hb2
   have hLB := hL7.up hx1
   have huB := hx7.trans hx1
   have hsB := huB.size
   clear hx1 hL7 hx7 hP2 hck7 hc27
   go_wp2_with (first
    | ((with_reducible apply ld_rowP undW infoW); exact rfl; exact rfl; exact hP3)
    | ((with_reducible apply bsW_P); exact rfl)
    | ((with_reducible apply appWs (z := S2)); exact rfl; exact rfl; exact OwnWs.up (Up.alloc _ _) hLB; exact one_range rfl; exact HS2.out; (focus (simp; omega)); (focus omega); rintro v8 w8 hO8 - hb8))
   go_roundg (n - (i + 1))
   case measure => omega
   case rel => exact ⟨i + 1, hlt, Nat.le_refl _, rfl, hO8, Below.trans (huB.trans (Up.alloc _ _)) hb8⟩
  ·obtain rfl : i = n := by omega
   go_wp2_with fail
   go_ret
   exact ⟨hU.trans hu, _, rfl, _, hU.size, hL⟩
end Go.Proofs.YtahifcannoekhaaGreatDoor
