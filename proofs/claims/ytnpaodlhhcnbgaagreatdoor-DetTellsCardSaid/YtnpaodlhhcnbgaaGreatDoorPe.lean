import Derived.Test.YtnpaodlhhcnbgaaGreatDoorPd
import Derived.Deep.DeepCutAuto
import Derived.Deep.CutRange
import Derived.Deep.CutBlock
import Derived.Lib.AppendZeros
import Derived.Lib.AppendZerosOnto
namespace Go.Proofs.YtnpaodlhhcnbgaaGreatDoor
open Go Go.RowKit
set_option maxRecDepth 100000
def Vh (w : World) (v : Value) (l : List Int) : Prop :=
  ∃ p cap, v = .slice p l.length cap ∧ ∀ i, i < l.length → ∃ a, p = some a ∧ w.cell? (a.add i) = some (.int .i16 (zth l i))
def In16 (l : List Int) : Prop := ∀ i, i < l.length → -32768 ≤ zth l i ∧ zth l i < 32768
theorem rt_zero : rt 0 [] = true := by decide
theorem rt_of {N : Int} {l l' : List Int} (h : rt N l = true) (hl : l'.length = l.length) (hf : l'.all fit = true) : rt N l' = true := by
  obtain ⟨h1, h2, h3, _⟩ := rt_spec h
  rw [rt_yes ⟨h1, h2, by rw [hl]; exact h3⟩]
  exact hf
theorem di_rt (N : Int) (l : List Int) (x : Int) : rt (diN N l x) (diR N l x) = true := by
  unfold diN diR
  by_cases h : diC N l x = 0
  · rw [if_pos h, if_pos h]
    unfold diC at h
    cases hr : rt N l with
    | false => rw [hr] at h; simp at h
    | true =>
      rw [hr] at h
      cases hf : (diL N.toNat l x).all fit with
      | false => rw [hf] at h; simp at h
      | true => exact rt_of hr (diL_len _ _ _) hf
  · rw [if_neg h, if_neg h]; exact rt_zero
theorem ou_rt (N : Int) (l : List Int) (x : Int) (h : List Int) : rt (ouN N l x h) (ouR N l x h) = true := by
  unfold ouN ouR
  by_cases h0 : ouC N l x h = 0
  · rw [if_pos h0, if_pos h0]
    unfold ouC at h0
    cases hr : rt N l with
    | false => rw [hr] at h0; simp at h0
    | true =>
      rw [hr, Bool.true_and] at h0
      split at h0
      · cases hf : (ouL N.toNat l x h).all fit with
        | false => rw [hf] at h0; simp at h0
        | true => exact rt_of hr (ouL_len _ _ _ _) hf
      · simp at h0
  · rw [if_neg h0, if_neg h0]; exact rt_zero
theorem vw_one (w : World) (a : Int) : Vw (w.alloc (.cells #[.int .i64 a] 2)) (.slice (some ⟨w.heap.size, 0, none⟩) 1 1) [a] := by
  refine ⟨_, 1, rfl, ⟨Nat.le_refl _, fun e => by cases e⟩, fun i hi => ⟨_, rfl, ?_⟩⟩
  rcases i with _ | i
  · simp [zth, Addr.add]
  · simp at hi
theorem In64.snoc {l : List Int} (h : In64 l) {z : Int} (hz : I64 z) : In64 (l ++ [z]) := by
  intro i hi
  rcases Nat.lt_or_ge i l.length with h1 | h1
  · have e : zth (l ++ [z]) i = zth l i := by rw [zth_get hi, List.getElem_append_left h1, ← zth_get h1]
    rw [e]; exact h i h1
  · have e : zth (l ++ [z]) i = z := by
      rw [zth_get hi, List.getElem_append_right h1]
      simp
    rw [e]; exact hz
def SeatPost (w : World) (r : Ending) (w' : World) : Prop := ∃ z N L, r = .returned z ∧ Up w w' ∧ SmO w' z N L ∧ rt N L = true
def MInv (K b : Nat) (w : World) : Prop := ∃ N s L, Blk w b 24 #[.int .i64 N, s] ∧ SmO w (.agg #[.int .i64 N, s]) N L ∧ rt N L = true ∧ N ≤ (K : Int)
def SeatFit (K : Nat) (w : World) (r : Ending) (w' : World) : Prop := ∃ z N L, r = .returned z ∧ Up w w' ∧ SmO w' z N L ∧ rt N L = true ∧ N ≤ (K : Int)
set_option maxHeartbeats 8000000 in
theorem seat_fit {v : Value} {hs : List Int} (n d : Nat) {w : World} (_ : n < 256) (_ : d < 65536) (hv : Vh w v hs) (h16 : In16 hs) (h60 : hs.length ≤ 60) :
    Calls Tryz.prog 8 #[.int .u8 (n : Nat), .int .u16 (d : Nat), v] w (SeatFit (n % 7) w) := by
  obtain ⟨k, hk⟩ : ∃ r, n % 7 = r := ⟨_, rfl⟩
  rw [hk]
  obtain ⟨dd, hdd⟩ : ∃ r, d % 5000 = r := ⟨_, rfl⟩
  have rk : (n : Int).tmod 7 = (k : Nat) := by rw [show (7 : Int) = ((7 : Nat) : Int) from rfl, ← Int.ofNat_tmod, hk]
  have rd : (d : Int).tmod 5000 = (dd : Nat) := by rw [show (5000 : Int) = ((5000 : Nat) : Int) from rfl, ← Int.ofNat_tmod, hdd]
  have lk : k < 7 := by omega
  have ld : dd < 5000 := by omega
  have ek : IntKind.i64.wrap (k : Int) = (k : Nat) := IntWalk.i64_in _ (by omega)
  have ed : IntKind.i64.wrap (dd : Int) = (dd : Nat) := IntWalk.i64_in _ (by omega)
  have Hhv := hid hv
  have H16 := hid h16
  obtain ⟨p, cap, rfl, hc⟩ := hv
  have HC := hid (fun w' (hu : Up w w') (i : Nat) (hi : i < hs.length) => (show ∃ a, p = some a ∧ w'.cell? (a.add i) = some (.int .i16 (zth hs i)) from by obtain ⟨a, h1, h2⟩ := hc i hi; exact ⟨a, h1, hu.cellEq h2⟩))
  clear hk hdd hc h16
  obtain ⟨W0, hW0⟩ : ∃ W0, w.alloc (.cells #[.int .i64 0, .slice none 0 0] 24) = W0 := ⟨_, rfl⟩
  have hQ : Blk W0 w.heap.size 24 #[.int .i64 0, .slice none 0 0] := by rw [← hW0]; exact Blk.new _ _ rfl
  have hU : Up w W0 := by rw [← hW0]; exact Up.alloc _ _
  go_enter Tryz.func8, Tryz.ntmps8
  go_wp2_with (first
    | (go_at_call 39; (with_reducible refine (rnew_any (k : Int) _).mono ?_); rintro r w1 ⟨z1, rfl, hu1, hs1⟩)
    | (go_at_call 38; (with_reducible refine (rdiag_any (dd : Int) hs1 (by unfold I64; omega)).mono ?_); rintro r w2 ⟨z2, rfl, hu2, hs2⟩; have hrt2 := di_rt (nw k) (zeros (nw k)) dd; obtain ⟨s2, base2, rfl, hO2, hr2⟩ := hs2; obtain ⟨p2, n2, c2, rfl⟩ := OwnI.slice hO2)
    | ((with_reducible apply stM_P); exact rfl; exact rfl; exact Blk.new _ _ rfl; exact rfl; exact rfl; exact two2 _ _ _ _ _))
  obtain ⟨N2, hN2⟩ : ∃ N2, diN (nw k) (zeros (nw k)) dd = N2 := ⟨_, rfl⟩
  obtain ⟨L2, hL2⟩ : ∃ L2, diR (nw k) (zeros (nw k)) dd = L2 := ⟨_, rfl⟩
  obtain ⟨C2, hC2⟩ : ∃ C2, diC (nw k) (zeros (nw k)) dd = C2 := ⟨_, rfl⟩
  rw [hN2, hL2] at hrt2
  rw [hL2] at hO2
  rw [hN2, hL2] at hr2
  rw [hN2, hC2]
  have HN2k := hid (show N2 ≤ (k : Int) from by rw [← hN2]; unfold diN nw; split <;> omega)
  clear hN2 hL2 hC2 hs1
  have hbn := Blk.new (w := w2) (b := w2.heap.size) 24 #[.int .i64 0, .slice none 0 0] rfl
  have hsm2 : SmO (w2.alloc (.cells #[.int .i64 0, .slice none 0 0] 24)) (.agg #[.int .i64 N2, .slice p2 n2 c2]) N2 L2 := ⟨_, base2, rfl, OwnI.up (Up.alloc _ _) hO2, hr2⟩
  have hux := hu1.trans hu2
  obtain ⟨b8, hb8⟩ : ∃ b, w2.heap.size = b := ⟨_, rfl⟩
  have hb8l : w.heap.size < b8 := by rw [← hb8]; exact Nat.lt_of_lt_of_le hQ.lt hux.size
  rw [hb8] at hbn
  refine wp_folded (fun wd => MInv k b8 wd ∧ Blk wd w.heap.size 24 #[.int .i64 0, .slice none 0 0] ∧ Up w wd) ⟨⟨N2, _, L2, by rw [hb8]; exact hbn.setRow _, by rw [hb8]; exact hsm2.setRow hbn, hrt2, HN2k.out⟩, by rw [hb8]; exact Blk.row_other ((hQ.up hux).old _) _ (by omega), by rw [hb8]; exact below_setRow ((hU.trans hux).trans (Up.alloc _ _)) (by omega) _⟩ (fun w3 hD => ?_)
  obtain ⟨hM, hQ3, hU3⟩ := hD
  rw [hb8]
  clear hbn hsm2 hux hb8 hO2 hr2 hrt2 hu1 hu2 hQ hU hW0 rk rd ed ld
  go_loopg [10] hs.length (fun g ti wr => ∃ i : Nat, i ≤ 60 ∧ hs.length - i ≤ g ∧ ti = .int .i64 (i : Nat) ∧ MInv k b8 wr ∧ Blk wr w.heap.size 24 #[.int .i64 0, .slice none 0 0] ∧ Up w wr)
  case atStart => exact ⟨0, by omega, by omega, rfl, hM, hQ3, hU3⟩
  case round =>
    clear hM hQ3 hU3
    obtain ⟨i, hi, hig, rfl, ⟨N, s, L, hB, hS, hrt, hNk⟩, hQ, hU⟩ := hrel
    have HNk := hid hNk
    clear hNk
    by_cases hbody : i + k ≤ hs.length ∧ 0 < k ∧ i < 4 * k
    · obtain ⟨g1, g2, g3⟩ := hbody
      have d1 : decide ((i : Int) + (k : Int) ≤ (hs.length : Int)) = true := decide_eq_true (by omega)
      have d2 : decide ((0 : Int) < (k : Int)) = true := decide_eq_true (by omega)
      have d3 : decide ((i : Int) < 4 * (k : Int)) = true := decide_eq_true (by omega)
      go_wp2_with fail
      obtain ⟨wS, rfl⟩ : ∃ x, x = wr := ⟨_, rfl⟩
      go_loopg [11, 12] k (fun g th tj wj => ∃ (j : Nat) (H : List Int), j ≤ k ∧ k - j ≤ g ∧ tj = .int .i64 (j : Nat) ∧ OwnI wj wS.heap.size th H ∧ H.length = j ∧ In64 H ∧ Up wS wj)
      case atStart => exact ⟨0, [], by omega, by omega, rfl, OwnI.nil _ _, rfl, fun i hi => absurd hi (Nat.not_lt_zero _), Up.refl _⟩
      case round =>
        obtain ⟨j, H, hj, hjg, rfl, hO, hH, hH64, hu⟩ := hrel
        have hsz := hu.size
        have HH := hid hH
        have HH64 := hid hH64
        clear hH hH64
        by_cases hlt : j < k
        · have hij : i + j < hs.length := by omega
          obtain ⟨a1, rfl, hc1⟩ := HC.out _ (hU.trans hu) (i + j) hij
          obtain ⟨q, hq⟩ : ∃ q, (zth hs (i + j)).tmod 200 = q := ⟨_, rfl⟩
          have hz := H16.out (i + j) hij
          have hq1 : -200 < q ∧ q < 200 := by rw [← hq]; have := Int.tmod_lt_of_pos (zth hs (i + j)) (show (0 : Int) < 200 by decide); have := Int.lt_tmod_of_pos (zth hs (i + j)) (show (0 : Int) < 200 by decide); omega
          have eq1 : IntKind.i64.wrap q = q := IntWalk.i64_in _ (by omega)
          have hT : ((i : Int) + (j : Int)).toNat = i + j := by omega
          have hT0 : (0 : Int) ≤ (i : Int) + (j : Int) := by omega
          have HQ1 := hid hq1
          generalize zth hs (i + j) = zz at *
          clear hq1
          go_wp2_with (first
            | ((with_reducible apply appV); exact rfl; exact rfl; exact OwnI.up (Up.alloc _ _) hO; exact vw_one _ _; (focus (simp; omega)); (focus (rw [HH.out]; omega)); (focus (simp; done)); rintro v' w' h1 h2; have hu9 : Up wS w' := Below.trans (hu.trans (Up.alloc _ _)) h2))
          go_roundg (k - (j + 1))
          case measure => omega
          case rel => exact ⟨j + 1, H ++ [q], by omega, Nat.le_refl _, rfl, h1, by rw [List.length_append, HH.out]; rfl, In64.snoc HH64.out (by have := HQ1.out; unfold I64; omega), hu9⟩
        · obtain rfl : j = k := by omega
          obtain ⟨r3, hr3⟩ : ∃ r, i % 3 = r := ⟨_, rfl⟩
          have er3 : (i : Int).tmod 3 = (r3 : Nat) := by rw [show (3 : Int) = ((3 : Nat) : Int) from rfl, ← Int.ofNat_tmod, hr3]
          have lr3 : r3 < 3 := by omega
          obtain ⟨x3, hx3⟩ : ∃ x : Int, 1 + (r3 : Int) = x := ⟨_, rfl⟩
          have HX3 : Hid (I64 x3) := hid (by unfold I64; omega)
          obtain ⟨ps, ns, cs, rfl⟩ : ∃ p n c, s = .slice p n c := by
            obtain ⟨s', base', e1, e2, _⟩ := hS
            obtain ⟨p', n', c', rfl⟩ := OwnI.slice e2
            injection e1 with e1
            simp at e1
            exact ⟨_, _, _, e1⟩
          have hB9 := hB.up hu
          have hS9 := hS.up hu
          have hQ9 := hQ.up hu
          have hU9 := hU.trans hu
          have HOU := hid (router_any x3 hS9.sm hO.vw HX3.out HH64.out (by rw [HH.out]; omega))
          have HRT := hid (ou_rt N L x3 H)
          clear hr3 hO hB hS hQ hU hu
          obtain ⟨CX, hCX⟩ : ∃ x, ouC N L x3 H = x := ⟨_, rfl⟩
          rw [hCX] at HOU
          obtain ⟨NX, hNX⟩ : ∃ x, ouN N L x3 H = x := ⟨_, rfl⟩
          obtain ⟨LX, hLX⟩ : ∃ x, ouR N L x3 H = x := ⟨_, rfl⟩
          rw [hNX, hLX] at HOU HRT
          have HNX := hid (show NX ≤ (j : Int) from by rw [← hNX]; unfold ouN; have := HNk.out; split <;> omega)
          clear hCX hNX hLX
          by_cases hcx : CX = 0
          · subst hcx
            go_wp2_with (first
              | ((with_reducible apply ldM_P); exact rfl; exact rfl; (first | exact hb13 | exact hB9); exact rfl)
              | (go_at_call 40; (with_reducible refine (HOU.out).mono ?_); rintro r w5 ⟨z5, rfl, hu5, hs5⟩; have hs5' := hs5; obtain ⟨s5, base5, rfl, hO5, hr5⟩ := hs5'; obtain ⟨p5, n5, c5, rfl⟩ := OwnI.slice hO5; have hbn5 := Blk.new (w := w5) (b := w5.heap.size) 24 #[.int .i64 0, .slice none 0 0] rfl; have hb13 := hbn5.setRow #[.int .i64 NX, .slice p5 n5 c5]; have hB5 := Blk.row_other ((hB9.up hu5).old (.cells #[.int .i64 0, .slice none 0 0] 24)) #[.int .i64 NX, .slice p5 n5 c5] (Nat.ne_of_lt (hB9.up hu5).lt); have hQ5 := Blk.row_other ((hQ9.up hu5).old (.cells #[.int .i64 0, .slice none 0 0] 24)) #[.int .i64 NX, .slice p5 n5 c5] (Nat.ne_of_lt (hQ9.up hu5).lt); have hsm5 := SmO.setRow (D := #[.int .i64 NX, .slice p5 n5 c5]) (SmO.up (Up.alloc w5 (.cells #[.int .i64 0, .slice none 0 0] 24)) hs5) hbn5; have hU5 := below_setRow (((hU9.trans hu5).trans (Up.alloc w5 (.cells #[.int .i64 0, .slice none 0 0] 24)))) (hU9.trans hu5).size #[.int .i64 NX, .slice p5 n5 c5])
              | ((with_reducible apply stM_P); exact rfl; exact rfl; (first | exact hbn5 | exact hB5); exact rfl; exact rfl; exact two2 _ _ _ _ _))
            go_roundg (hs.length - (i + j))
            case measure => omega
            case rel => exact ⟨i + j, by omega, Nat.le_refl _, rfl, ⟨NX, _, LX, hB5.setRow _, hsm5.setRow hB5, HRT.out, HNX.out⟩, Blk.row_other hQ5 _ (by omega), below_setRow hU5 (by omega) _⟩
          · have hcx' : (CX == 0) = false := by simpa using hcx
            go_wp2_with (first
              | ((with_reducible apply ldM_P); exact rfl; exact rfl; exact hB9; exact rfl)
              | (go_at_call 40; (with_reducible refine (HOU.out).mono ?_); rintro r w5 ⟨z5, rfl, hu5, hs5⟩; have hs5' := hs5; obtain ⟨s5, base5, rfl, hO5, hr5⟩ := hs5'; obtain ⟨p5, n5, c5, rfl⟩ := OwnI.slice hO5; have hbn5 := Blk.new (w := w5) (b := w5.heap.size) 24 #[.int .i64 0, .slice none 0 0] rfl; have hB5 := Blk.row_other ((hB9.up hu5).old (.cells #[.int .i64 0, .slice none 0 0] 24)) #[.int .i64 NX, .slice p5 n5 c5] (Nat.ne_of_lt (hB9.up hu5).lt); have hQ5 := Blk.row_other ((hQ9.up hu5).old (.cells #[.int .i64 0, .slice none 0 0] 24)) #[.int .i64 NX, .slice p5 n5 c5] (Nat.ne_of_lt (hQ9.up hu5).lt); have hsm5 := SmO.setRow (D := #[.int .i64 NX, .slice p5 n5 c5]) (SmO.up ((hu5.trans (Up.alloc w5 (.cells #[.int .i64 0, .slice none 0 0] 24)))) hS9) hbn5; have hU5 := below_setRow (((hU9.trans hu5).trans (Up.alloc w5 (.cells #[.int .i64 0, .slice none 0 0] 24)))) (hU9.trans hu5).size #[.int .i64 NX, .slice p5 n5 c5])
              | ((with_reducible apply stM_P); exact rfl; exact rfl; exact hbn5; exact rfl; exact rfl; exact two2 _ _ _ _ _))
            go_roundg (hs.length - (i + j))
            case measure => omega
            case rel => exact ⟨i + j, by omega, Nat.le_refl _, rfl, ⟨N, _, L, hB5, hsm5, hrt, HNk.out⟩, hQ5, hU5⟩
    · obtain ⟨s', base', e1, e2, e3⟩ := hS
      have e1' := e1
      obtain ⟨ps, ns, cs, rfl⟩ := OwnI.slice e2
      injection e1 with e1
      obtain rfl : s = .slice ps ns cs := by simpa using e1
      have hFO : SmO (wr.setRow w.heap.size #[.int .i64 N, .slice ps ns cs]) (.agg #[.int .i64 N, .slice ps ns cs]) N L := SmO.setRow ⟨_, base', rfl, e2, e3⟩ hQ
      have HFO := hid hFO
      clear e1 e2 e3 e1' hFO
      by_cases c1 : i + k ≤ hs.length
      · by_cases c2 : 0 < k
        · have c3 : ¬ i < 4 * k := fun h => hbody ⟨c1, c2, h⟩
          have d3 : decide ((i : Int) < 4 * (k : Int)) = false := decide_eq_false (by omega)
          clear hbody
          go_wp2_with (first
            | ((with_reducible apply ldM_P); exact rfl; exact rfl; exact hB; exact rfl)
            | ((with_reducible apply stM_P); exact rfl; exact rfl; exact hQ; exact rfl; exact rfl; exact two2 _ _ _ _ _))
          exact bodyPost_ret (resM rfl rfl (hQ.setRow _) rfl) rfl ⟨_, N, L, rfl, below_setRow hU (Nat.le_refl _) _, HFO.out, hrt, HNk.out⟩
        · clear hbody
          go_wp2_with (first
            | ((with_reducible apply ldM_P); exact rfl; exact rfl; exact hB; exact rfl)
            | ((with_reducible apply stM_P); exact rfl; exact rfl; exact hQ; exact rfl; exact rfl; exact two2 _ _ _ _ _))
          exact bodyPost_ret (resM rfl rfl (hQ.setRow _) rfl) rfl ⟨_, N, L, rfl, below_setRow hU (Nat.le_refl _) _, HFO.out, hrt, HNk.out⟩
      · clear hbody
        go_wp2_with (first
          | ((with_reducible apply ldM_P); exact rfl; exact rfl; exact hB; exact rfl)
          | ((with_reducible apply stM_P); exact rfl; exact rfl; exact hQ; exact rfl; exact rfl; exact two2 _ _ _ _ _))
        exact bodyPost_ret (resM rfl rfl (hQ.setRow _) rfl) rfl ⟨_, N, L, rfl, below_setRow hU (Nat.le_refl _) _, HFO.out, hrt, HNk.out⟩
theorem seat_any {v : Value} {hs : List Int} (n d : Nat) {w : World} (hn : n < 256) (hd : d < 65536) (hv : Vh w v hs) (h16 : In16 hs) (h60 : hs.length ≤ 60) :
    Calls Tryz.prog 8 #[.int .u8 (n : Nat), .int .u16 (d : Nat), v] w (SeatPost w) :=
  (seat_fit n d hn hd hv h16 h60).mono fun _ _ ⟨z, N, L, h1, h2, h3, h4, _⟩ => ⟨z, N, L, h1, h2, h3, h4⟩
theorem zth_ext {l m : List Int} (h : l.length = m.length) (h2 : ∀ i, i < l.length → zth l i = zth m i) : l = m := by
  refine List.ext_getElem h fun i h1 h3 => ?_
  have := h2 i h1
  rwa [zth_get h1, zth_get h3] at this
theorem tmod_bound (v : Int) {m : Int} (hm : 0 < m) : -m < v.tmod m ∧ v.tmod m < m := by
  have h1 := Int.tmod_lt_of_pos v hm
  have h2 := Int.neg_tmod v m
  have h3 := Int.tmod_lt_of_pos (-v) hm
  omega
structure Near (g : Nat) (w w' : World) : Prop where
  os : w'.os = w.os
  tape : w'.tape = w.tape
  output : w'.output = w.output
  size : w.heap.size ≤ w'.heap.size
  block : ∀ k, k < w.heap.size → k ≠ g → w'.heap[k]? = w.heap[k]?
theorem Near.refl (g : Nat) (w : World) : Near g w w := ⟨rfl, rfl, rfl, Nat.le_refl _, fun _ _ _ => rfl⟩
theorem Near.trans {g : Nat} {a b c : World} (h : Near g a b) (k : Near g b c) : Near g a c :=
  ⟨k.os.trans h.os, k.tape.trans h.tape, k.output.trans h.output, Nat.le_trans h.size k.size, fun i hi hg => (k.block i (Nat.lt_of_lt_of_le hi h.size) hg).trans (h.block i hi hg)⟩
theorem Near.of {g : Nat} {a b : World} (h : Up a b) : Near g a b := ⟨h.os, h.tape, h.output, h.size, fun k hk _ => h.block k hk⟩
theorem Near.up {g : Nat} {a b c : World} (h : Near g a b) (hu : Up b c) : Near g a c := h.trans (Near.of hu)
theorem Near.cell {g i : Nat} {a w : World} (h : Near g a w) (v : Value) : Near g a (w.setCell ⟨g, i, none⟩ v) := by
  have k : Below 0 w (w.setCell ⟨g, i, none⟩ v) := (Below.refl 0 w).setCell (Nat.zero_le _) v
  exact h.trans ⟨k.os, k.tape, k.output, k.size, fun j _ hg => Below.heap_setCell w ⟨g, i, none⟩ v j hg⟩
theorem Near.row {g b n : Nat} {t : TypeId} {f : Nat → Nat} {w w' : World} (h : Near g w w') (hb : b ≠ g) (hr : Row w b t n f) : Row w' b t n f := by
  have h1 := hr.lt
  unfold Row Blk at *
  rw [h.block b h1 hb]; exact hr
theorem Near.below {g B : Nat} {a w w' : World} (h : Near g w w') (hg : B ≤ g) (hb : Below B a w) (hB : B ≤ w.heap.size) : Below B a w' :=
  Below.trans hb ⟨h.os, h.tape, h.output, h.size, fun k hk => h.block k (by omega) (by omega)⟩
theorem off_step {A L M X V l lo c c' r b b' P : Nat} (h : A + L = M + (b + c) * P) (h1 : lo + c' * 18446744073709551616 = l * V + c) (h2 : r + lo + b = X + b' * 18446744073709551616) :
    A + r * P + (L + l * V * P) = M + X * P + (b' + c') * (P * 18446744073709551616) := by
  have e : (r + lo + b + (lo + c' * 18446744073709551616)) * P = (X + b' * 18446744073709551616 + (l * V + c)) * P := by rw [h1, h2]
  grind
theorem off_last {A L M X c r b b' P : Nat} (h : A + L = M + (b + c) * P) (h2 : r + c + b = X + b' * 18446744073709551616) :
    A + r * P + L = M + X * P + b' * (P * 18446744073709551616) := by
  have e : (r + c + b) * P = (X + b' * 18446744073709551616) * P := by rw [h2]
  grind
theorem sum_shift_upd (f : Nat → Nat) (o k v : Nat) : sumL (fun j => upd f (o + k) v (o + j)) (k + 1) = sumL (fun j => f (o + j)) k + v * bp k := by
  rw [sumL_succ, upd_same]
  congr 1
  exact sumL_congr fun i hi => upd_other f (o + k) v (by omega)
set_option maxHeartbeats 4000000 in
theorem take_off (gx o n gy cx cy l : Nat) (S V : Nat → Nat) (hS : ∀ j, j < 17 → S j < 18446744073709551616) (hV : ∀ j, j < 17 → V j < 18446744073709551616) (hg : gx ≠ gy) (ho : o + n < 17) (hl : l < 18446744073709551616) (w : World) (rx : Row w gx 201 17 S) (ry : Row w gy 201 17 V) :
    Calls Tryz.prog 147 #[.slice (some ⟨gx, o, none⟩) (n + 1) cx, .slice (some ⟨gy, 0, none⟩) n cy, .int .u64 (l : Nat)] w fun e w' =>
      ∃ (S' : Nat → Nat) (b : Nat), e = .returned (.bool (decide (b ≠ 0))) ∧ b ≤ 1 ∧ sumL (fun j => S' (o + j)) (n + 1) + l * sumL V n = sumL (fun j => S (o + j)) (n + 1) + b * bp (n + 1) ∧
        (∀ j, j < o ∨ o + n < j → S' j = S j) ∧ (∀ j, j < 17 → S' j < 18446744073709551616) ∧ Row w' gx 201 17 S' ∧ Near gx w w' := by
  have HS := hid hS
  have HV := hid hV
  clear hS hV
  go_enter Tryz.func147, Tryz.ntmps147
  go_wp2
  go_loopw [8, 9, 14] (fun tc tb ti wr => ∃ (i c b : Nat) (T : Nat → Nat), i ≤ n ∧ tc = .int .u64 (c : Nat) ∧ tb = .int .u64 (b : Nat) ∧ ti = .int .i64 (i : Nat) ∧ c < 18446744073709551616 ∧ b ≤ 1 ∧
      sumL (fun j => T (o + j)) i + l * sumL V i = sumL (fun j => S (o + j)) i + (b + c) * bp i ∧ (∀ j, j < o ∨ o + i ≤ j → T j = S j) ∧ (∀ j, j < 17 → T j < 18446744073709551616) ∧ Row wr gx 201 17 T ∧ Near gx w wr)
    (fun _ _ ti _ => n - (intOf ti).toNat)
  case atStart => exact ⟨0, 0, 0, S, by omega, rfl, rfl, rfl, by omega, by omega, by simp [sumL_zero], fun _ _ => rfl, HS.out, rx, Near.refl _ _⟩
  case round =>
    obtain ⟨i, c, b, T, hi, rfl, rfl, rfl, hc, hb, hsum, hT, hTl, hR, hN⟩ := hrel
    have Hsum := hid hsum
    have HT := hid hT
    have HTl := hid hTl
    clear hsum hT hTl rx
    by_cases hlt : i < n
    · have hVi := HV.out i (by omega)
      have hcy := (hN.row (Ne.symm hg) ry).cell i (by omega)
      have hcx := hR.cell (o + i) (by omega)
      have hfx := hR.frozen (o + i)
      obtain ⟨lo, c', hlo, hc'⟩ : ∃ lo c' : Nat, lo = (l * V i + c + 0) % 18446744073709551616 ∧ c' = (l * V i + c + 0) / 18446744073709551616 := ⟨_, _, rfl, rfl⟩
      have hstep := step_any l (V i) c 0 hl hVi hc (by decide)
      rw [← hlo, ← hc'] at hstep
      obtain ⟨b1, b2, b3⟩ := step_bound hl hVi hc (by decide) hlo hc'
      have HST := hid (show ∀ w, Calls Tryz.prog 141 #[.int .u64 (l : Nat), .int .u64 (V i : Nat), .int .u64 (c : Nat), .int .u64 0] w (fun e w' => e = .returned (.tuple #[.int .u64 (lo : Nat), .int .u64 (c' : Nat)]) ∧ w' = w) from hstep)
      have HB3 := hid b3
      clear hlo hc' hstep b3
      obtain ⟨r, b', hadd, hr, hrl, hb1⟩ : ∃ r b' : Nat, (∀ w, (callFunc 130 #[.int .u64 (T (o + i) : Nat), .int .u64 (lo : Nat), .int .u64 (b : Nat)]).run Tryz.prog w = .ok (.value (.tuple #[.int .u64 (r : Nat), .int .u64 (b' : Nat)])) w) ∧
          Hid (r + lo + b = T (o + i) + b' * 18446744073709551616) ∧ r < 18446744073709551616 ∧ b' ≤ 1 :=
        ⟨_, _, run_sub (T (o + i)) lo b hb, hid (by have := HTl.out (o + i) (by omega); split <;> omega), Nat.mod_lt _ (by decide), by split <;> omega⟩
      have gR := hR.set (o + i) r
      have gN := hN.cell (i := o + i) (.int .u64 (r : Nat))
      clear hR hN
      go_wp2_with (go_at_call 141; (with_reducible refine (HST.out _).mono ?_); rintro e w' ⟨rfl, rfl⟩)
      go_roundw
      case rel =>
        refine ⟨i + 1, c', b', upd T (o + i) r, by omega, rfl, rfl, by go_num, b2, hb1, ?_, fun j hj => by rw [upd_other _ _ _ (by omega)]; exact HT.out j (by omega), upd_lt HTl.out hrl, gR, gN⟩
        rw [sum_shift_upd, sumL_succ V, sumL_succ (fun j => S (o + j)), bp_succ, Nat.mul_add, ← Nat.mul_assoc]
        have h1 := HB3.out
        have h2 := hr.out
        rw [HT.out (o + i) (by omega)] at h2
        exact off_step Hsum.out (by omega) h2
      case measure => simp [intOf] <;> omega
    · obtain rfl : i = n := by omega
      have hcx := hR.cell (o + i) (by omega)
      have hfx := hR.frozen (o + i)
      obtain ⟨r, b', hadd, hr, hrl, hb1⟩ : ∃ r b' : Nat, (∀ w, (callFunc 130 #[.int .u64 (T (o + i) : Nat), .int .u64 (c : Nat), .int .u64 (b : Nat)]).run Tryz.prog w = .ok (.value (.tuple #[.int .u64 (r : Nat), .int .u64 (b' : Nat)])) w) ∧
          Hid (r + c + b = T (o + i) + b' * 18446744073709551616) ∧ r < 18446744073709551616 ∧ b' ≤ 1 :=
        ⟨_, _, run_sub (T (o + i)) c b hb, hid (by have := HTl.out (o + i) (by omega); split <;> omega), Nat.mod_lt _ (by decide), by split <;> omega⟩
      have gR := hR.set (o + i) r
      have gN := hN.cell (i := o + i) (.int .u64 (r : Nat))
      clear hR hN
      go_wp2
      go_ret
      refine ⟨upd T (o + i) r, b', ret_bool ?_, hb1, ?_, fun j hj => by rw [upd_other _ _ _ (by omega)]; exact HT.out j (by omega), upd_lt HTl.out hrl, gR, gN⟩
      · rw [Bool.eq_iff_iff, bne_iff_ne, decide_eq_true_iff]; omega
      · rw [sum_shift_upd, sumL_succ (fun j => S (o + j)), bp_succ]
        have h2 := hr.out
        rw [HT.out (o + i) (by omega)] at h2
        exact off_last Hsum.out h2
theorem back_step {A L M X V c c' r P : Nat} (h : A + c * P = M + L) (h2 : r + c' * 18446744073709551616 = X + V + c) :
    A + r * P + c' * (P * 18446744073709551616) = M + X * P + (L + V * P) := by
  have e : (r + c' * 18446744073709551616) * P = (X + V + c) * P := by rw [h2]
  grind
set_option maxHeartbeats 4000000 in
theorem put_back (gx o n gy cx cy : Nat) (S V : Nat → Nat) (hS : ∀ j, j < 17 → S j < 18446744073709551616) (hV : ∀ j, j < 17 → V j < 18446744073709551616) (hg : gx ≠ gy) (ho : o + n < 17) (w : World) (rx : Row w gx 201 17 S) (ry : Row w gy 201 17 V) :
    Calls Tryz.prog 148 #[.slice (some ⟨gx, o, none⟩) (n + 1) cx, .slice (some ⟨gy, 0, none⟩) n cy] w fun e w' =>
      ∃ (S' : Nat → Nat) (b : Nat), e = .returned (.bool (decide (b ≠ 0))) ∧ b ≤ 1 ∧ sumL (fun j => S' (o + j)) (n + 1) + b * bp (n + 1) = sumL (fun j => S (o + j)) (n + 1) + sumL V n ∧
        (∀ j, j < o ∨ o + n < j → S' j = S j) ∧ (∀ j, j < 17 → S' j < 18446744073709551616) ∧ Row w' gx 201 17 S' ∧ Near gx w w' := by
  have HS := hid hS
  have HV := hid hV
  clear hS hV
  go_enter Tryz.func148, Tryz.ntmps148
  go_wp2
  go_loopw [5, 10] (fun tc ti wr => ∃ (i c : Nat) (T : Nat → Nat), i ≤ n ∧ tc = .int .u64 (c : Nat) ∧ ti = .int .i64 (i : Nat) ∧ c ≤ 1 ∧
      sumL (fun j => T (o + j)) i + c * bp i = sumL (fun j => S (o + j)) i + sumL V i ∧ (∀ j, j < o ∨ o + i ≤ j → T j = S j) ∧ (∀ j, j < 17 → T j < 18446744073709551616) ∧ Row wr gx 201 17 T ∧ Near gx w wr)
    (fun _ ti _ => n - (intOf ti).toNat)
  case atStart => exact ⟨0, 0, S, by omega, rfl, rfl, by omega, by simp [sumL_zero], fun _ _ => rfl, HS.out, rx, Near.refl _ _⟩
  case round =>
    obtain ⟨i, c, T, hi, rfl, rfl, hc, hsum, hT, hTl, hR, hN⟩ := hrel
    have Hsum := hid hsum
    have HT := hid hT
    have HTl := hid hTl
    clear hsum hT hTl rx
    by_cases hlt : i < n
    · have hY := hN.row (Ne.symm hg) ry
      have hcy := hY.cell i (by omega)
      have hcx := hR.cell (o + i) (by omega)
      have hfx := hR.frozen (o + i)
      obtain ⟨r, c', hadd, hr, hrl, hc1⟩ : ∃ r c' : Nat, (∀ w, (callFunc 88 #[.int .u64 (T (o + i) : Nat), .int .u64 (V i : Nat), .int .u64 (c : Nat)]).run Tryz.prog w = .ok (.value (.tuple #[.int .u64 (r : Nat), .int .u64 (c' : Nat)])) w) ∧
          Hid (r + c' * 18446744073709551616 = T (o + i) + V i + c) ∧ r < 18446744073709551616 ∧ c' ≤ 1 :=
        ⟨_, _, run_add (T (o + i)) (V i) c hc, hid (by omega), Nat.mod_lt _ (by decide), by have := HTl.out (o + i) (by omega); have := HV.out i (by omega); omega⟩
      go_wp2
      refine wp_region_upS (S := (fun wq => Row wq gx 201 17 T ∧ Row wq gy 201 17 V ∧ wq.cell? ⟨gx, o + i, none⟩ = some (.int .u64 (T (o + i) : Nat)) ∧ wq.cell? ⟨gy, i, none⟩ = some (.int .u64 (V i : Nat)) ∧ Near gx w wq)) (req := (fun j => j != 16)) (by kernel_rfl) (fun _ _ h hu => ⟨(h.1).up hu, (h.2.1).up hu, hu.cell (h.2.2.1), hu.cell (h.2.2.2.1), Near.up (h.2.2.2.2) hu⟩) ⟨gRow, gRow, (by first | assumption | (apply Blk.cell; exact gBlk; exact rfl)), (by first | assumption | (apply Blk.cell; exact gBlk; exact rfl)), (by assumption)⟩ (fun wS hSS => ?_)
      have ⟨hS1, hS2, hS3, hS4, hSB⟩ := hSS
      clear hcx hcy hfx hR hY hN
      have hk1 : (i : Int) < (n : Int) + 1 := by omega
      refine wpAnyU_pure (i := 0) (d := (some 14)) (v := ?_) rfl rfl (by kernel_rfl) (fun _ _ _ h => h) (fun _ _ h hu => ⟨(h.1).up hu, (h.2.1).up hu, hu.cell (h.2.2.1), hu.cell (h.2.2.2.1), Near.up (h.2.2.2.2) hu⟩) (Or.inl ⟨by rfl, fun w' _ => yu_value ?_⟩) ?_
      rotate_left
      · (go_simp; (try exact rfl))
      try simp only [Act.put, pu1, pu2, pu3]
      refine wpAnyU_pure (i := 1) (d := (some 15)) (v := ?_) rfl rfl (by kernel_rfl) (fun _ _ _ h => h) (fun _ _ h hu => ⟨(h.1).up hu, (h.2.1).up hu, hu.cell (h.2.2.1), hu.cell (h.2.2.2.1), Near.up (h.2.2.2.2) hu⟩) (Or.inl ⟨by rfl, fun w' _ => yu_value ?_⟩) ?_
      rotate_left
      · (go_simp; (try exact rfl))
      try simp only [Act.put, pu1, pu2, pu3]
      refine wpAnyU_pure (i := 2) (d := (some 16)) (v := ?_) rfl rfl (by kernel_rfl) (fun _ _ _ h => h) (fun _ _ h hu => ⟨(h.1).up hu, (h.2.1).up hu, hu.cell (h.2.2.1), hu.cell (h.2.2.2.1), Near.up (h.2.2.2.2) hu⟩) (Or.inl ⟨by rfl, fun w' _ => yu_value ?_⟩) ?_
      rotate_left
      · (go_simp; (try exact rfl))
      try simp only [Act.put, pu1, pu2, pu3]
      refine wpAnyU_pure (i := 3) (d := (some 17)) (v := ?_) rfl rfl (by kernel_rfl) (fun _ _ _ h => h) (fun _ _ h hu => ⟨(h.1).up hu, (h.2.1).up hu, hu.cell (h.2.2.1), hu.cell (h.2.2.2.1), Near.up (h.2.2.2.2) hu⟩) (Or.inl ⟨by rfl, fun w' _ => yu_value ?_⟩) ?_
      rotate_left
      · (go_simp; (try exact rfl))
      try simp only [Act.put, pu1, pu2, pu3]
      refine wpAnyU_pure (i := 4) (d := (some 18)) (v := ?_) rfl rfl (by kernel_rfl) (fun _ _ _ h => h) (fun _ _ h hu => ⟨(h.1).up hu, (h.2.1).up hu, hu.cell (h.2.2.1), hu.cell (h.2.2.2.1), Near.up (h.2.2.2.2) hu⟩) (Or.inl ⟨by rfl, fun w' _ => yu_value ?_⟩) ?_
      rotate_left
      · (go_simp; (try exact rfl))
      try simp only [Act.put, pu1, pu2, pu3]
      refine wpAnyU_take (i := 5) (d := (some 19)) (v := ?_) rfl rfl (by kernel_rfl) (fun _ _ _ h => h) (fun _ _ h hu => ⟨(h.1).up hu, (h.2.1).up hu, hu.cell (h.2.2.1), hu.cell (h.2.2.2.1), Near.up (h.2.2.2.2) hu⟩) hSS (Or.inl ⟨by rfl, fun w' hSw => yu_value ?_⟩) ?_
      rotate_left
      · ((try dsimp only at hSw); (try obtain ⟨_, _, _, _, _⟩ := hSw); go_simp; (try exact rfl))
      try simp only [Act.put, pu1, pu2, pu3]
      refine wpAnyU_pure (i := 6) (d := (some 20)) (v := ?_) rfl rfl (by kernel_rfl) (fun _ _ _ h => h) (fun _ _ h hu => ⟨(h.1).up hu, (h.2.1).up hu, hu.cell (h.2.2.1), hu.cell (h.2.2.2.1), Near.up (h.2.2.2.2) hu⟩) (Or.inl ⟨by rfl, fun w' _ => yu_value ?_⟩) ?_
      rotate_left
      · (go_simp; (try exact rfl))
      try simp only [Act.put, pu1, pu2, pu3]
      refine wpAnyU_pure (i := 7) (d := (some 21)) (v := ?_) rfl rfl (by kernel_rfl) (fun _ _ _ h => h) (fun _ _ h hu => ⟨(h.1).up hu, (h.2.1).up hu, hu.cell (h.2.2.1), hu.cell (h.2.2.2.1), Near.up (h.2.2.2.2) hu⟩) (Or.inl ⟨by rfl, fun w' _ => yu_value ?_⟩) ?_
      rotate_left
      · (go_simp; (try exact rfl))
      try simp only [Act.put, pu1, pu2, pu3]
      refine wpAnyU_pure (i := 8) (d := (some 22)) (v := ?_) rfl rfl (by kernel_rfl) (fun _ _ _ h => h) (fun _ _ h hu => ⟨(h.1).up hu, (h.2.1).up hu, hu.cell (h.2.2.1), hu.cell (h.2.2.2.1), Near.up (h.2.2.2.2) hu⟩) (Or.inl ⟨by rfl, fun w' _ => yu_value ?_⟩) ?_
      rotate_left
      · (go_simp; (try exact rfl))
      try simp only [Act.put, pu1, pu2, pu3]
      refine wpAnyU_take (i := 9) (d := (some 23)) (v := ?_) rfl rfl (by kernel_rfl) (fun _ _ _ h => h) (fun _ _ h hu => ⟨(h.1).up hu, (h.2.1).up hu, hu.cell (h.2.2.1), hu.cell (h.2.2.2.1), Near.up (h.2.2.2.2) hu⟩) hSS (Or.inl ⟨by rfl, fun w' hSw => yu_value ?_⟩) ?_
      rotate_left
      · ((try dsimp only at hSw); (try obtain ⟨_, _, _, _, _⟩ := hSw); go_simp; (try exact rfl))
      try simp only [Act.put, pu1, pu2, pu3]
      refine wpAnyU_pure (i := 10) (d := (some 24)) (v := ?_) rfl rfl (by kernel_rfl) (fun _ _ _ h => h) (fun _ _ h hu => ⟨(h.1).up hu, (h.2.1).up hu, hu.cell (h.2.2.1), hu.cell (h.2.2.2.1), Near.up (h.2.2.2.2) hu⟩) (Or.inl ⟨by rfl, fun w' _ => yu_value ?_⟩) ?_
      rotate_left
      · (go_simp; (try exact rfl))
      try simp only [Act.put, pu1, pu2, pu3]
      refine wpAnyU_pure (i := 11) (d := (some 25)) (v := ?_) rfl rfl (by kernel_rfl) (fun _ _ _ h => h) (fun _ _ h hu => ⟨(h.1).up hu, (h.2.1).up hu, hu.cell (h.2.2.1), hu.cell (h.2.2.2.1), Near.up (h.2.2.2.2) hu⟩) (Or.inl ⟨by rfl, fun w' _ => yu_value ?_⟩) ?_
      rotate_left
      · (go_simp; (try exact rfl))
      try simp only [Act.put, pu1, pu2, pu3]
      refine wpAnyU_pure (i := 12) (d := (some 13)) (v := ?_) rfl rfl (by kernel_rfl) (fun _ _ _ h => h) (fun _ _ h hu => ⟨(h.1).up hu, (h.2.1).up hu, hu.cell (h.2.2.1), hu.cell (h.2.2.2.1), Near.up (h.2.2.2.2) hu⟩) (Or.inl ⟨by rfl, fun w' _ => yu_value ?_⟩) ?_
      rotate_left
      · (go_simp; (try exact rfl))
      try simp only [Act.put, pu1, pu2, pu3]
      refine wpAnyU_pure (i := 13) (d := (some 26)) (v := ?_) rfl rfl (by kernel_rfl) (fun _ _ _ h => h) (fun _ _ h hu => ⟨(h.1).up hu, (h.2.1).up hu, hu.cell (h.2.2.1), hu.cell (h.2.2.2.1), Near.up (h.2.2.2.2) hu⟩) (Or.inl ⟨by rfl, fun w' _ => yu_value ?_⟩) ?_
      rotate_left
      · (go_simp; (try exact rfl))
      try simp only [Act.put, pu1, pu2, pu3]
      refine wpAnyU_pure (i := 14) (d := (some 27)) (v := ?_) rfl rfl (by kernel_rfl) (fun _ _ _ h => h) (fun _ _ h hu => ⟨(h.1).up hu, (h.2.1).up hu, hu.cell (h.2.2.1), hu.cell (h.2.2.2.1), Near.up (h.2.2.2.2) hu⟩) (Or.inl ⟨by rfl, fun w' _ => yu_value ?_⟩) ?_
      rotate_left
      · (go_simp; (try exact rfl))
      try simp only [Act.put, pu1, pu2, pu3]
      refine wpAnyU_pure (i := 15) (d := (some 28)) (v := ?_) rfl rfl (by kernel_rfl) (fun _ _ _ h => h) (fun _ _ h hu => ⟨(h.1).up hu, (h.2.1).up hu, hu.cell (h.2.2.1), hu.cell (h.2.2.2.1), Near.up (h.2.2.2.2) hu⟩) (Or.inl ⟨by rfl, fun w' _ => yu_value ?_⟩) ?_
      rotate_left
      · (go_simp; (try exact rfl))
      try simp only [Act.put, pu1, pu2, pu3]
      refine wpAnyU_one (i := 16) rfl (by kernel_rfl) (by rfl) fun w1 hw1 => ?_
      have hcW := (hS1.up hw1).cell (o+i) (by omega)
      have hfW := (hS1.up hw1).frozen (o+i)
      go_simp
      clear hcW hfW
      refine wpAnyU_pure (i := 17) (d := (some 5)) (v := ?_) rfl rfl (by kernel_rfl) (fun _ _ _ h => h) (fun _ _ h hu => ⟨(h.1).up hu, (h.2.1).up hu, hu.cell (h.2.2.1), hu.cell (h.2.2.2.1), Near.up (h.2.2.2.2) hu⟩) (Or.inl ⟨by rfl, fun w' _ => yu_value ?_⟩) ?_
      rotate_left
      · (go_simp; (try exact rfl))
      try simp only [Act.put, pu1, pu2, pu3]
      refine wpAnyU_done (by kernel_rfl) (fun wF huE => ?_) _
      have gR := ((hS1.up hw1).set (o + i) r).up huE
      have gN := ((hSB.up hw1).cell (i := o + i) (.int .u64 (r : Nat))).up huE
      clear hS1 hS2 hS3 hS4 hSB hSS hw1 huE
      go_wp2
      go_roundw
      case rel =>
        refine ⟨i + 1, c', upd T (o + i) r, by omega, rfl, by go_num, hc1, ?_, fun j hj => by rw [upd_other _ _ _ (by omega)]; exact HT.out j (by omega), upd_lt HTl.out hrl, gR, gN⟩
        rw [sum_shift_upd, sumL_succ V, sumL_succ (fun j => S (o + j)), bp_succ]
        have h2 := hr.out
        rw [HT.out (o + i) (by omega)] at h2
        exact back_step Hsum.out h2
      case measure => simp [intOf] <;> omega
    · obtain rfl : i = n := by omega
      have hcx := hR.cell (o + i) (by omega)
      have hfx := hR.frozen (o + i)
      obtain ⟨r, c', hadd, hr, hrl, hc1⟩ : ∃ r c' : Nat, (∀ w, (callFunc 88 #[.int .u64 (T (o + i) : Nat), .int .u64 0, .int .u64 (c : Nat)]).run Tryz.prog w = .ok (.value (.tuple #[.int .u64 (r : Nat), .int .u64 (c' : Nat)])) w) ∧
          Hid (r + c' * 18446744073709551616 = T (o + i) + 0 + c) ∧ r < 18446744073709551616 ∧ c' ≤ 1 := by
        have h := run_add (T (o + i)) 0 c hc
        simp only [show ((0 : Nat) : Int) = 0 from rfl] at h
        exact ⟨_, _, h, hid (by omega), Nat.mod_lt _ (by decide), by have := HTl.out (o + i) (by omega); omega⟩
      have gR := hR.set (o + i) r
      have gN := hN.cell (i := o + i) (.int .u64 (r : Nat))
      clear hR hN
      go_wp2
      go_ret
      refine ⟨upd T (o + i) r, c', ret_bool ?_, hc1, ?_, fun j hj => by rw [upd_other _ _ _ (by omega)]; exact HT.out j (by omega), upd_lt HTl.out hrl, gR, gN⟩
      · rw [Bool.eq_iff_iff, bne_iff_ne, decide_eq_true_iff]; omega
      · rw [sum_shift_upd, sumL_succ (fun j => S (o + j)), bp_succ]
        have h2 := hr.out
        rw [HT.out (o + i) (by omega)] at h2
        have h3 := back_step (V := 0) Hsum.out h2
        rw [Nat.zero_mul, Nat.add_zero] at h3
        exact h3
def guessN (h l y : Nat) : Nat := if y ≤ h then 18446744073709551615 else (18446744073709551616 * h + l) / y
theorem guess_lt {h l y : Nat} (hl : l < 18446744073709551616) : guessN h l y < 18446744073709551616 := by
  unfold guessN
  split
  · decide
  · exact short_q (by omega) hl
set_option maxHeartbeats 1000000 in
theorem guess_any (h l y : Nat) (_ : h < 18446744073709551616) (hl : l < 18446744073709551616) (hy : y < 18446744073709551616) (w : World) :
    Calls Tryz.prog 146 #[.int .u64 (h : Nat), .int .u64 (l : Nat), .int .u64 (y : Nat)] w fun e w' => e = .returned (.int .u64 (guessN h l y : Nat)) ∧ Up w w' := by
  by_cases hc : y ≤ h
  · have e : guessN h l y = 18446744073709551615 := by unfold guessN; rw [if_pos hc]
    rw [e]
    clear e
    go_enter Tryz.func146, Tryz.ntmps146
    go_wp2
    go_ret
    exact ⟨rfl, gUp⟩
  · have e : guessN h l y = (18446744073709551616 * h + l) / y := by unfold guessN; rw [if_neg hc]
    have hD := fun w => div64_any h l y hy hl (by omega) w
    rw [← e] at hD
    generalize guessN h l y = g at *
    generalize (18446744073709551616 * h + l) % y = r at *
    have HD := hid hD
    clear e hD
    go_enter Tryz.func146, Tryz.ntmps146
    go_wp2_with (go_at_call 136; (with_reducible refine (HD.out _).mono ?_); rintro e w' ⟨rfl, hu⟩)
    go_ret
    exact ⟨rfl, gUp⟩
theorem sumL_split (f : Nat → Nat) (a b : Nat) : sumL f (a + b) = sumL f a + sumL (fun j => f (a + j)) b * bp a := by
  induction b with
  | zero => simp [sumL_zero]
  | succ b ih =>
    rw [← Nat.add_assoc, sumL_succ, ih, sumL_succ, bp_add, Nat.add_mul]
    generalize sumL (fun j => f (a + j)) b = t at *
    generalize bp a = p at *
    generalize bp b = q at *
    grind
theorem zero_above {f : Nat → Nat} {n k : Nat} (h : sumL f n < bp k) : ∀ j, k ≤ j → j < n → f j = 0 := by
  induction n with
  | zero => intro j _ hj; omega
  | succ n ih =>
    rw [sumL_succ] at h
    intro j h1 h2
    by_cases e : j = n
    · subst e
      rcases Nat.eq_zero_or_pos (f j) with h3 | h3
      · exact h3
      · have h4 : 1 * bp j ≤ f j * bp j := Nat.mul_le_mul_right _ h3
        have h5 := bp_mono h1
        omega
    · exact ih (by omega) j h1 (by omega)
theorem sum_cut {f : Nat → Nat} {n k : Nat} (hk : k ≤ n) (h : ∀ j, k ≤ j → j < n → f j = 0) : sumL f n = sumL f k := by
  obtain ⟨d, rfl⟩ := Nat.exists_eq_add_of_le hk
  rw [sumL_split]
  rw [sumL_congr (g := fun _ => 0) (fun j hj => h (k + j) (by omega) (by omega)), sumL_zeros]
  omega
theorem guess_ge {F V : Nat → Nat} {m P W : Nat} (hF : ∀ j, j < m + 2 → F j < 18446744073709551616) (hW : sumL F (m + 2) = W) (hP : sumL V (m + 1) = P) (h0 : 0 < P) (hlt : W < P * 18446744073709551616) : W / P ≤ guessN (F (m + 1)) (F m) (V m) := by
  unfold guessN
  split
  · have : W / P < 18446744073709551616 := by rw [Nat.div_lt_iff_lt_mul h0, Nat.mul_comm]; exact hlt
    omega
  · rename_i hv
    rw [Nat.le_div_iff_mul_le (by omega)]
    have h1 := sumL_lt (f := F) (k := m) fun j hj => hF j (by omega)
    rw [sumL_succ, sumL_succ, bp_succ] at hW
    rw [sumL_succ] at hP
    have h2 := Nat.div_mul_le_self W P
    generalize W / P = q at *
    have h3 : q * (V m * bp m) ≤ q * P := Nat.mul_le_mul_left _ (by omega)
    have h4 : q * V m * bp m < (18446744073709551616 * F (m + 1) + F m + 1) * bp m := by
      have e : (18446744073709551616 * F (m + 1) + F m + 1) * bp m = F m * bp m + F (m + 1) * (bp m * 18446744073709551616) + bp m := by grind
      rw [e, Nat.mul_assoc]
      omega
    have h5 := Nat.lt_of_mul_lt_mul_right h4
    omega
theorem round_end {W1 W P g : Nat} (h : W1 + g * P = W) (hge : W / P ≤ g) (h0 : 0 < P) : W1 < P ∧ g = W / P := by
  have h1 : g ≤ W / P := by rw [Nat.le_div_iff_mul_le h0]; omega
  have h2 : g = W / P := by omega
  refine ⟨?_, h2⟩
  have h3 := Nat.mod_lt W h0
  have h4 := Nat.div_add_mod W P
  rw [← h2, Nat.mul_comm] at h4
  omega
theorem round_more {W1 W P g B : Nat} (h : W1 + g * P = W + B) (hB : W1 < B) (h0 : 0 < P) : 1 ≤ g ∧ W / P ≤ g - 1 := by
  have h1 : W < g * P := by omega
  have h2 : W / P < g := by rw [Nat.div_lt_iff_lt_mul h0]; exact h1
  generalize W / P = q at *
  omega
theorem round_next {W1 W2 W P g B b : Nat} (h : W1 + g * P = W + B) (h2 : W2 + b * B = W1 + P) (hg : 1 ≤ g) (hb : b ≤ 1) : W2 + (g - 1) * P = W + (1 - b) * B := by
  obtain ⟨k, rfl⟩ : ∃ k, g = k + 1 := ⟨g - 1, by omega⟩
  rw [Nat.add_sub_cancel, Nat.add_mul, Nat.one_mul] at *
  have hb2 : b = 0 ∨ b = 1 := by omega
  rcases hb2 with rfl | rfl
  · simp at *; omega
  · simp at *; omega
theorem long_step {S S' T : Nat → Nat} {i m P W W1 g X : Nat} (hm : i + m < 17) (hi : i < 16) (hS : ∀ j, j < 17 → S j < 18446744073709551616) (hX : X = sumL T 16 * P + sumL S 17) (hT : T i = 0) (hR : sumL S 17 < bp (i + m + 1))
    (hW : sumL (fun j => S (i + j)) (m + 1) = W) (hW1 : sumL (fun j => S' (i + j)) (m + 1) = W1) (ho : ∀ j, j < i ∨ i + m < j → S' j = S j) (he : W1 + g * P = W) (hlt : W1 < P) :
    X = sumL (upd T i g) 16 * P + sumL S' 17 ∧ sumL S' 17 < P * bp i := by
  have hz := zero_above hR
  have e1 : sumL S 17 = sumL S i + W * bp i := by
    rw [sum_cut (show i + (m + 1) ≤ 17 by omega) (fun j h1 h2 => hz j (by omega) h2), sumL_split, hW]
  have e2 : sumL S' 17 = sumL S i + W1 * bp i := by
    rw [sum_cut (show i + (m + 1) ≤ 17 by omega) (fun j h1 h2 => by rw [ho j (by omega)]; exact hz j (by omega) h2), sumL_split, hW1, sumL_congr fun j hj => ho j (.inl hj)]
  have e3 := sumL_upd T g hi
  rw [hT, Nat.zero_mul, Nat.add_zero] at e3
  have h1 := sumL_lt (f := S) (k := i) fun j hj => hS j (by omega)
  constructor
  · rw [e2, e3, hX, e1, ← he]
    grind
  · rw [e2]
    have h2 : (W1 + 1) * bp i ≤ P * bp i := Nat.mul_le_mul_right _ hlt
    rw [Nat.add_mul] at h2
    omega
theorem long_end {x y s Q R : Nat} (h0 : 0 < y) (h : x * 2 ^ s = Q * (y * 2 ^ s) + R) (hR : R < y * 2 ^ s) : Q = x / y ∧ R / 2 ^ s = x % y := by
  have hp := Nat.two_pow_pos s
  generalize 2 ^ s = p at *
  have h1 : x * p / (y * p) = Q := by
    rw [h, Nat.mul_comm Q, Nat.mul_add_div (Nat.mul_pos h0 hp), Nat.div_eq_of_lt hR, Nat.add_zero]
  have h2 : x * p % (y * p) = R := by
    rw [h, Nat.mul_comm Q, Nat.mul_add_mod, Nat.mod_eq_of_lt hR]
  rw [Nat.mul_div_mul_right _ _ hp] at h1
  rw [Nat.mul_mod_mul_right] at h2
  exact ⟨h1.symm, by rw [← h2, Nat.mul_div_cancel _ hp]⟩
theorem norm_part {y m s : Nat} (hy : y < bp m) (hm : 0 < m) (htop : limb y (m - 1) ≠ 0) (hs : s = 64 - Lib.bitLen (limb y (m - 1))) : y * 2 ^ s < bp m ∧ 9223372036854775808 * bp (m - 1) ≤ y * 2 ^ s ∧ s < 64 := by
  obtain ⟨k, rfl⟩ : ∃ k, m = k + 1 := ⟨m - 1, by omega⟩
  rw [Nat.add_sub_cancel] at *
  obtain ⟨b1, b2, b3, b4⟩ := bitLen_spec (limb_lt y k) htop
  have e : limb y k = y / bp k := by
    unfold limb
    exact Nat.mod_eq_of_lt (by rw [Nat.div_lt_iff_lt_mul (bp_pos k), Nat.mul_comm, ← bp_succ]; exact hy)
  generalize Lib.bitLen (limb y k) = L at *
  rw [e] at b2 b3
  have h1 : y < 2 ^ L * bp k := by rw [← Nat.div_lt_iff_lt_mul (bp_pos k)]; exact b3
  have h2 : 2 ^ (L - 1) * bp k ≤ y := by rw [← Nat.le_div_iff_mul_le (bp_pos k)]; exact b2
  have hp := Nat.two_pow_pos s
  have e1 : 2 ^ L * 2 ^ s = 18446744073709551616 := by rw [← Nat.pow_add, show L + s = 64 by omega]
  have e2 : 2 ^ (L - 1) * 2 ^ s = 9223372036854775808 := by rw [← Nat.pow_add, show L - 1 + s = 63 by omega]
  refine ⟨?_, ?_, by omega⟩
  · have h3 : y * 2 ^ s < 2 ^ L * bp k * 2 ^ s := Nat.mul_lt_mul_of_pos_right h1 hp
    rw [bp_succ, ← e1]
    calc y * 2 ^ s < 2 ^ L * bp k * 2 ^ s := h3
      _ = bp k * (2 ^ L * 2 ^ s) := by grind
  · have h3 : 2 ^ (L - 1) * bp k * 2 ^ s ≤ y * 2 ^ s := Nat.mul_le_mul_right _ h2
    rw [← e2]
    calc 2 ^ (L - 1) * 2 ^ s * bp k = 2 ^ (L - 1) * bp k * 2 ^ s := by grind
      _ ≤ y * 2 ^ s := h3
theorem run_allocL {o : Oper} {a : Act} (ho : o.op = .alloc 201) (w : World) :
    (execOp a.eval o).run Tryz.prog w = .ok (.value (.pointer (some ⟨w.heap.size, 0, none⟩))) (w.alloc (.cells (cells 17 (fun _ => 0)) 201)) := by
  rw [← zeros17]
  unfold execOp
  rw [ho]
  dsimp only
  go_simp
theorem wpAnyU_allocL {ops : Array Oper} {Q : Exit → Act → World → Prop} {md : Region.Mode} {S : World → Prop} {req : Nat → Bool} {i : Nat} {o : Oper} {d : Option Tmp} {fuel : Nat} {listed : Array Bool} {a : Act} {w : World}
    (hi : ops[i]? = some o) (hd : o.dst = d) (hr : Region.ready md ops listed = [i]) (hw : Region.wanted o (yielded ops a.tmps) = true) (ho : o.op = .alloc 201) (hSup : ∀ w w', S w → Up w w' → S w')
    (h : ∀ w1, Up w w1 → wpAnyU Tryz.prog md ops Q S req fuel (listed.setIfInBounds i true) (a.put d (.pointer (some ⟨w1.heap.size, 0, none⟩))) (w1.alloc (.cells (cells 17 (fun _ => 0)) 201))) : wpAnyU Tryz.prog md ops Q S req (fuel + 1) listed a w := by
  subst hd
  refine wpAnyU_one hi hr hw fun w1 hw1 => ?_
  unfold Oper.wp
  rw [run_allocL ho w1]
  exact ⟨fun _ hS => hSup _ _ hS (Up.alloc _ _), h w1 hw1⟩
theorem wpAnyU_alloc2L {ops : Array Oper} {Q : Exit → Act → World → Prop} {md : Region.Mode} {S : World → Prop} {req : Nat → Bool} {i j : Nat} {oi oj : Oper} {di dj : Tmp} {fuel : Nat} {listed : Array Bool} {a : Act} {w : World}
    (hi : ops[i]? = some oi) (hj : ops[j]? = some oj) (hdi : oi.dst = some di) (hdj : oj.dst = some dj) (hd : di ≠ dj) (hgi : oi.guard = none) (hgj : oj.guard = none) (hoi : oi.op = .alloc 201) (hoj : oj.op = .alloc 201)
    (hr : Region.ready md ops listed = [i, j]) (hr1 : Region.ready md ops (listed.setIfInBounds i true) = [j]) (hr2 : Region.ready md ops (listed.setIfInBounds j true) = [i]) (hij : i ≠ j) (hSup : ∀ w w', S w → Up w w' → S w')
    (h : ∀ w1 p q, Up w w1 → Row w1 p 201 17 (fun _ => 0) → Row w1 q 201 17 (fun _ => 0) → p ≠ q → w.heap.size ≤ p → w.heap.size ≤ q →
      wpAnyU Tryz.prog md ops Q S req fuel ((listed.setIfInBounds i true).setIfInBounds j true) ((a.put (some di) (.pointer (some ⟨p, 0, none⟩))).put (some dj) (.pointer (some ⟨q, 0, none⟩))) w1) :
    wpAnyU Tryz.prog md ops Q S req (fuel + 2) listed a w := by
  have hwi : ∀ a : Act, Region.wanted oi (yielded ops a.tmps) = true := fun a => by simp [Region.wanted, hgi]
  have hwj : ∀ a : Act, Region.wanted oj (yielded ops a.tmps) = true := fun a => by simp [Region.wanted, hgj]
  refine wpAnyU_all hr (by simp) fun w1 hw1 k hk => ?_
  simp only [List.mem_cons, List.not_mem_nil, or_false] at hk
  rcases hk with rfl | rfl
  · unfold wpOp
    simp only [hi, hwi, if_true]
    refine .inl ?_
    unfold Oper.wp
    rw [run_allocL hoi w1]
    refine ⟨fun _ hS => hSup _ _ hS (Up.alloc _ _), ?_⟩
    refine wpAnyU_allocL hj hdj hr1 (hwj _) hoj hSup fun w2 hw2 => ?_
    rw [hdi]
    have h1 := hw1.size
    have h2 := hw2.size
    simp only [World.alloc, Array.size_push] at h2
    exact h _ _ _ ((hw1.trans ((Up.alloc _ _).trans hw2)).trans (Up.alloc _ _)) ((Row.up (row_newc _ 17 _ rfl) hw2).up (Up.alloc _ _)) (row_newc _ 17 _ rfl) (by omega) (by omega) (by omega)
  · unfold wpOp
    simp only [hj, hwj, if_true]
    refine .inl ?_
    unfold Oper.wp
    rw [run_allocL hoj w1]
    refine ⟨fun _ hS => hSup _ _ hS (Up.alloc _ _), ?_⟩
    refine wpAnyU_allocL hi hdi hr2 (hwi _) hoi hSup fun w2 hw2 => ?_
    rw [hdj, Act.put_comm a (x := some dj) (y := some di) _ _ (fun d h1 h2 => hd (by rw [Option.some.inj h1, Option.some.inj h2])), Array.setIfInBounds_comm _ _ (Ne.symm hij)]
    have h1 := hw1.size
    have h2 := hw2.size
    simp only [World.alloc, Array.size_push] at h2
    exact h _ _ _ ((hw1.trans ((Up.alloc _ _).trans hw2)).trans (Up.alloc _ _)) (row_newc _ 17 _ rfl) ((Row.up (row_newc _ 17 _ rfl) hw2).up (Up.alloc _ _)) (by omega) (by omega) (by omega)
theorem wp_worldD {P : Program} {c : Code} {Q : Exit → Act → World → Prop} {a : Act} {w : World} (R : World → Prop) (h : R w) (k : ∀ w', R w' → c.wp P Q a w') : c.wp P Q a w := k w h
section
variable {P : Program} {ops : Array Oper} {Q : Exit → Act → World → Prop} {md : Region.Mode} {S : World → Prop} {req : Nat → Bool}
theorem wpAnyU_callN {i : Nat} {o : Oper} {d : Option Tmp} {fuel : Nat} {listed : Array Bool} {a : Act} {w : World} {f : FuncId} {args : Array Value} {R : World → Value → World → Prop} (hi : ops[i]? = some o) (hd : o.dst = d) (hr : Region.ready md ops listed = [i]) (hw : Region.wanted o (yielded ops a.tmps) = true) (hq : req i = false)
    (hrun : ∀ w', (execOp a.eval o).run P w' = .ok (.enter f args) w') (hc : ∀ w', Up w w' → Calls P f args w' fun e w'' => ∃ v, e = .returned v ∧ R w' v w'')
    (h : ∀ w' v w'', Up w w' → R w' v w'' → wpAnyU P md ops Q S req fuel (listed.setIfInBounds i true) (a.put d v) w'') : wpAnyU P md ops Q S req (fuel + 1) listed a w := by
  refine wpAnyU_one hi hr hw fun w1 hw1 => ?_
  unfold Oper.wp
  rw [hrun w1]
  subst hd
  refine Calls.mono (hc w1 hw1) fun e w'' he => ?_
  obtain ⟨v, rfl, hR⟩ := he
  exact ⟨(fun h1 => by (rw [hq] at h1; cases h1)), h w1 v w'' hw1 hR⟩
end
theorem undL2 : Tryz.prog.underlying 201 = some (.array (Tryz.prog.arrayLen 201) (Tryz.prog.elem 201)) := by kernel_rfl
theorem lenL2 : Tryz.prog.arrayLen 201 = 17 := by kernel_rfl
theorem run_size1 (w : World) : (sizeOf (Tryz.prog.elem 201)).run Tryz.prog w = .ok 1 w := by rfl
theorem slice_win {p i m : Nat} (h : i + m < 17) (w : World) :
    (Instr.sliceAt 201 (.pointer (some ⟨p, 0, none⟩)) (some (.int .i64 (i : Nat))) (some (.int .i64 ((i : Int) + (m : Int) + 1))) none).run Tryz.prog w = .ok (.slice (some ⟨p, i, none⟩) (m + 1) (17 - i)) w := by
  rw [run_sliceAt_array_lh w 201 ⟨p, 0, none⟩ undL2 .i64 .i64 (i : Nat) ((i : Int) + (m : Int) + 1) (by omega) (by omega) (by rw [lenL2]; omega), run_size1, lenL2]
  simp only [Result.andThen_ok, slicedAt, Int.toNat_natCast, Nat.mul_one]
  rw [if_neg (by omega), show ((i : Int) + (m : Int) + 1).toNat - i = m + 1 by omega]
  simp [Addr.add]
  intro h0; exact h0.symm
theorem slice_low {q m : Nat} (h : m < 17) (w : World) :
    (Instr.sliceAt 201 (.pointer (some ⟨q, 0, none⟩)) none (some (.int .i64 (m : Nat))) none).run Tryz.prog w = .ok (.slice (some ⟨q, 0, none⟩) m 17) w := by
  rw [run_sliceAt_array_h w 201 ⟨q, 0, none⟩ undL2 .i64 (m : Nat) (by omega) (by rw [lenL2]; omega), run_size1, lenL2]
  simp [slicedAt, Addr.add]
set_option maxHeartbeats 8000000 in
theorem divide_long (x y : Nat) (hx : x < bp 16) (hy : y < bp 16) (hxy : y ≤ x) (hm2 : 2 ≤ lenL (limb y) 16) (w : World) :
    Calls Tryz.prog 144 #[wideV x, wideV y] w fun e w' => e = .returned (divV x y) ∧ Up w w' := by
  have HLX := hid (length_any x)
  have HLY := hid (length_any y)
  have hn16 := lenL_le (limb x) 16
  have hm16 := lenL_le (limb y) 16
  have hyb := sum_len hy
  have hxb := lt_bp_len hx
  have hyl := lt_bp_len hy
  have hyg := bp_le_of_len (limb y) 16 (by omega)
  have htop := lenL_top (limb y) 16 (by omega)
  rw [sumL_limb, Nat.mod_eq_of_lt hy] at hyg
  obtain ⟨n, hn⟩ : ∃ n, lenL (limb x) 16 = n := ⟨_, rfl⟩
  obtain ⟨m, hm⟩ : ∃ m, lenL (limb y) 16 = m := ⟨_, rfl⟩
  rw [hn] at HLX hn16 hxb
  rw [hm] at HLY hm16 hyl hyg htop hm2
  have hmn : m ≤ n := by
    rcases Nat.lt_or_ge (m - 1) n with h | h
    · omega
    · have := bp_mono h; omega
  obtain ⟨s, hs⟩ : ∃ s, s = 64 - Lib.bitLen (limb y (m - 1)) := ⟨_, rfl⟩
  obtain ⟨hP1, hP2, hs64⟩ := norm_part hyl (by omega) htop hs
  have hlz := fun w => Tryz.bits_LeadingZeros64 (limb y (m - 1) : Nat) w (by omega) (by have := limb_lt y (m - 1); omega)
  have hbl := (bitLen_spec (limb_lt y (m - 1)) htop).2.2.2
  rw [Int.toNat_natCast, show (64 : Int) - (Lib.bitLen (limb y (m - 1)) : Int) = (s : Nat) by omega] at hlz
  have HLZ := hid hlz
  have HL1 := hid (left_any x hx s hs64)
  have HL2 := hid (left_any y hy s hs64)
  have es : IntKind.u64.wrap (s : Int) = (s : Nat) := by rw [IntKind.wrap_u64]; omega
  have em1 : IntKind.i64.wrap ((m : Int) - 1) = ((m - 1 : Nat) : Int) := by rw [IntWalk.i64_in _ (by omega)]; omega
  obtain ⟨m1, hm1⟩ : ∃ m1, m - 1 = m1 := ⟨_, rfl⟩
  rw [hm1] at em1 HLZ htop
  have enm : IntKind.i64.wrap ((n : Int) - (m : Int)) = (n : Int) - (m : Int) := IntWalk.i64_in _ (by omega)
  have HP1 := hid hP1
  have HP2 := hid hP2
  have Hn := hid hxb
  have hy0 := hid (show 0 < y by have := bp_pos (m - 1); omega)
  have Hx := hid hx
  have Hy := hid hy
  have Hm1 := hid hm1
  have ltm : m1 < 16 := by omega
  clear hyb hyg hyl hxb htop hs hlz hbl hP1 hP2 hxy hx hy hn hm hm1
  unfold wideV at HLX HLY HL1 HL2
  unfold longV at HL1 HL2
  have HD := hid (show divV x y = divV x y from rfl)
  unfold wideV
  go_enter Tryz.func144, Tryz.ntmps144
  go_wp2
  refine wp_region_upS (S := (fun wq => Row wq w.heap.size 33 16 (limb x) ∧ Row wq (w.heap.size + 1) 33 16 (limb y) ∧ Row wq (w.heap.size + 1 + 1) 33 16 (fun _ => 0) ∧ Row wq (w.heap.size + 1 + 1 + 1) 33 16 (fun _ => 0) ∧ Below w.heap.size w wq)) (req := (fun _ => true)) (by kernel_rfl) (fun _ _ h hu => ⟨(h.1).up hu, (h.2.1).up hu, (h.2.2.1).up hu, (h.2.2.2.1).up hu, below_up (h.2.2.2.2) hu⟩) ⟨gRow, gRow, gRow, gRow, gUp⟩ (fun wS hSS => ?_)
  have ⟨hS1, hS2, hS3, hS4, hSB⟩ := hSS
  refine wpAnyU_take (i := 0) (d := (some 15)) (v := _) rfl rfl (by kernel_rfl) (fun _ _ _ h => h) (fun _ _ h hu => ⟨(h.1).up hu, (h.2.1).up hu, (h.2.2.1).up hu, (h.2.2.2.1).up hu, below_up (h.2.2.2.2) hu⟩) hSS (Or.inl ⟨by rfl, fun w' hSw => yu_value (run_ld undW infoW _ rfl _ rfl hSw.1)⟩) ?_
  try simp only [Act.put, pu1, pu2, pu3]
  refine wpAnyU_take (i := 1) (d := (some 16)) (v := _) rfl rfl (by kernel_rfl) (fun _ _ _ h => h) (fun _ _ h hu => ⟨(h.1).up hu, (h.2.1).up hu, (h.2.2.1).up hu, (h.2.2.2.1).up hu, below_up (h.2.2.2.2) hu⟩) hSS (Or.inl ⟨by rfl, fun w' hSw => yu_call ?_ (HLX.out _)⟩) ?_
  · go_simp
  try simp only [Act.put, pu1, pu2, pu3]
  refine wpAnyU_take (i := 2) (d := (some 17)) (v := _) rfl rfl (by kernel_rfl) (fun _ _ _ h => h) (fun _ _ h hu => ⟨(h.1).up hu, (h.2.1).up hu, (h.2.2.1).up hu, (h.2.2.2.1).up hu, below_up (h.2.2.2.2) hu⟩) hSS (Or.inl ⟨by rfl, fun w' hSw => yu_value (run_ld undW infoW _ rfl _ rfl hSw.2.1)⟩) ?_
  try simp only [Act.put, pu1, pu2, pu3]
  refine wpAnyU_take (i := 3) (d := (some 18)) (v := _) rfl rfl (by kernel_rfl) (fun _ _ _ h => h) (fun _ _ h hu => ⟨(h.1).up hu, (h.2.1).up hu, (h.2.2.1).up hu, (h.2.2.2.1).up hu, below_up (h.2.2.2.2) hu⟩) hSS (Or.inl ⟨by rfl, fun w' hSw => yu_call ?_ (HLY.out _)⟩) ?_
  · go_simp
  try simp only [Act.put, pu1, pu2, pu3]
  refine wpAnyU_pure (i := 4) (d := (some 6)) (v := ?_) rfl rfl (by kernel_rfl) (fun _ _ _ h => h) (fun _ _ h hu => ⟨(h.1).up hu, (h.2.1).up hu, (h.2.2.1).up hu, (h.2.2.2.1).up hu, below_up (h.2.2.2.2) hu⟩) (Or.inl ⟨by rfl, fun w' _ => yu_value ?_⟩) ?_
  rotate_left
  · (go_simp; (try exact rfl))
  try simp only [Act.put, pu1, pu2, pu3]
  refine wpAnyU_pure (i := 5) (d := (some 7)) (v := ?_) rfl rfl (by kernel_rfl) (fun _ _ _ h => h) (fun _ _ h hu => ⟨(h.1).up hu, (h.2.1).up hu, (h.2.2.1).up hu, (h.2.2.2.1).up hu, below_up (h.2.2.2.2) hu⟩) (Or.inl ⟨by rfl, fun w' _ => yu_value ?_⟩) ?_
  rotate_left
  · (go_simp; (try exact rfl))
  try simp only [Act.put, pu1, pu2, pu3]
  refine wpAnyU_done (by kernel_rfl) (fun wF huE => ?_) _
  have gX := hS1.up huE
  have gY := hS2.up huE
  have gQ := hS3.up huE
  have gR := hS4.up huE
  have gB := below_up hSB huE
  clear hS1 hS2 hS3 hS4 hSB hSS huE
  have hct := gY.cell m1 ltm
  go_upto_region 3 with (first | (go_at_call 137; (with_reducible refine (HLZ.out _).mono ?_); rintro e w' ⟨rfl, rfl⟩))
  clear hct HLX HLY HLZ
  refine wp_region_upS (S := (fun wq => Row wq w.heap.size 33 16 (limb x) ∧ Row wq (w.heap.size + 1) 33 16 (limb y) ∧ Row wq (w.heap.size + 1 + 1) 33 16 (fun _ => 0) ∧ Row wq (w.heap.size + 1 + 1 + 1) 33 16 (fun _ => 0) ∧ Below w.heap.size w wq)) (req := (fun j => j != 8 && j != 9)) (by kernel_rfl) (fun _ _ h hu => ⟨(h.1).up hu, (h.2.1).up hu, (h.2.2.1).up hu, (h.2.2.2.1).up hu, below_up (h.2.2.2.2) hu⟩) ⟨gRow, gRow, gRow, gRow, gUp⟩ (fun wS hSS => ?_)
  have ⟨hS1, hS2, hS3, hS4, hSB⟩ := hSS
  clear gX gY gQ gR gB
  refine wpAnyU_take (i := 0) (d := (some 25)) (v := _) rfl rfl (by kernel_rfl) (fun _ _ _ h => h) (fun _ _ h hu => ⟨(h.1).up hu, (h.2.1).up hu, (h.2.2.1).up hu, (h.2.2.2.1).up hu, below_up (h.2.2.2.2) hu⟩) hSS (Or.inl ⟨by rfl, fun w' hSw => yu_value (run_ld undW infoW _ rfl _ rfl hSw.1)⟩) ?_
  try simp only [Act.put, pu1, pu2, pu3]
  refine wpAnyU_pure (i := 1) (d := (some 26)) (v := ?_) rfl rfl (by kernel_rfl) (fun _ _ _ h => h) (fun _ _ h hu => ⟨(h.1).up hu, (h.2.1).up hu, (h.2.2.1).up hu, (h.2.2.2.1).up hu, below_up (h.2.2.2.2) hu⟩) (Or.inl ⟨by rfl, fun w' _ => yu_value ?_⟩) ?_
  rotate_left
  · (go_simp; (try exact rfl))
  try simp only [Act.put, pu1, pu2, pu3]
  refine wpAnyU_take (i := 2) (d := (some 27)) (v := _) rfl rfl (by kernel_rfl) (fun _ _ _ h => h) (fun _ _ h hu => ⟨(h.1).up hu, (h.2.1).up hu, (h.2.2.1).up hu, (h.2.2.2.1).up hu, below_up (h.2.2.2.2) hu⟩) hSS (Or.inl ⟨by rfl, fun w' hSw => yu_call ?_ (HL1.out _)⟩) ?_
  · go_simp
  try simp only [Act.put, pu1, pu2, pu3]
  refine wpAnyU_take (i := 3) (d := (some 28)) (v := _) rfl rfl (by kernel_rfl) (fun _ _ _ h => h) (fun _ _ h hu => ⟨(h.1).up hu, (h.2.1).up hu, (h.2.2.1).up hu, (h.2.2.2.1).up hu, below_up (h.2.2.2.2) hu⟩) hSS (Or.inl ⟨by rfl, fun w' hSw => yu_value (run_ld undW infoW _ rfl _ rfl hSw.2.1)⟩) ?_
  try simp only [Act.put, pu1, pu2, pu3]
  refine wpAnyU_pure (i := 4) (d := (some 29)) (v := ?_) rfl rfl (by kernel_rfl) (fun _ _ _ h => h) (fun _ _ h hu => ⟨(h.1).up hu, (h.2.1).up hu, (h.2.2.1).up hu, (h.2.2.2.1).up hu, below_up (h.2.2.2.2) hu⟩) (Or.inl ⟨by rfl, fun w' _ => yu_value ?_⟩) ?_
  rotate_left
  · (go_simp; (try exact rfl))
  try simp only [Act.put, pu1, pu2, pu3]
  refine wpAnyU_take (i := 5) (d := (some 30)) (v := _) rfl rfl (by kernel_rfl) (fun _ _ _ h => h) (fun _ _ h hu => ⟨(h.1).up hu, (h.2.1).up hu, (h.2.2.1).up hu, (h.2.2.2.1).up hu, below_up (h.2.2.2.2) hu⟩) hSS (Or.inl ⟨by rfl, fun w' hSw => yu_call ?_ (HL2.out _)⟩) ?_
  · go_simp
  try simp only [Act.put, pu1, pu2, pu3]
  refine wpAnyU_alloc2L (i := 6) (j := 7) (di := 9) (dj := 10) rfl rfl rfl rfl (by decide) rfl rfl rfl rfl (by kernel_rfl) (by kernel_rfl) (by kernel_rfl) (by decide) (fun _ _ h hu => ⟨(h.1).up hu, (h.2.1).up hu, (h.2.2.1).up hu, (h.2.2.2.1).up hu, below_up (h.2.2.2.2) hu⟩) fun w3 p q hw3 hp hq hpq hpl hql => ?_
  try simp only [Act.put, pu1, pu2, pu3]
  have l3 := hS3.lt
  have l4 := hS4.lt
  have lB := hSB.size
  refine wpAnyU_one (i := 8) rfl (by kernel_rfl) (by rfl) fun w4 hw4 => ?_
  refine wp_st_rowN infoL rfl _ _ rfl _ rfl rfl (hp.up hw4) ?_
  refine ⟨fun h => by simp at h, ?_⟩
  try simp only [Act.put, pu1, pu2, pu3]
  refine wpAnyU_one (i := 9) rfl (by kernel_rfl) (by rfl) fun w5 hw5 => ?_
  refine wp_st_rowN infoL rfl _ _ rfl _ rfl rfl (((hq.up hw4).row_other _ (Ne.symm hpq)).up hw5) ?_
  refine ⟨fun h => by simp at h, ?_⟩
  try simp only [Act.put, pu1, pu2, pu3]
  refine wpAnyU_done (by kernel_rfl) (fun wF huE => ?_) _
  have g3 := (((((hS3.up hw3).up hw4).row_other (cells 17 (limb (x * 2 ^ s))) (show w.heap.size + 1 + 1 ≠ p by omega)).up hw5).row_other (cells 17 (limb (y * 2 ^ s))) (show w.heap.size + 1 + 1 ≠ q by omega)).up huE
  have g4 := (((((hS4.up hw3).up hw4).row_other (cells 17 (limb (x * 2 ^ s))) (show w.heap.size + 1 + 1 + 1 ≠ p by omega)).up hw5).row_other (cells 17 (limb (y * 2 ^ s))) (show w.heap.size + 1 + 1 + 1 ≠ q by omega)).up huE
  have gp : Row wF p 201 17 (limb (x * 2 ^ s)) := ((((hp.up hw4).setRow _).up hw5).row_other (cells 17 (limb (y * 2 ^ s))) hpq).up huE
  have gq : Row wF q 201 17 (limb (y * 2 ^ s)) := ((((hq.up hw4).row_other (cells 17 (limb (x * 2 ^ s))) (Ne.symm hpq)).up hw5).setRow _).up huE
  have gB := below_up (below_setRow (below_up (below_setRow (below_up (below_up hSB hw3) hw4) (show w.heap.size ≤ p by omega) (cells 17 (limb (x * 2 ^ s)))) hw5) (show w.heap.size ≤ q by omega) (cells 17 (limb (y * 2 ^ s)))) huE
  have lp : w.heap.size + 1 + 1 + 1 < p := by omega
  have lq : w.heap.size + 1 + 1 + 1 < q := by omega
  clear hS1 hS2 hS3 hS4 hSB hSS hw3 hw4 hw5 huE hp hq hpl hql l3 l4 lB HL1 HL2
  have l1 := gp.lt
  have l2 := gq.lt
  have l5 := gB.size
  go_upto_block 0 with (fail)
  try simp only [Act.put]
  refine wp_worldD (fun wd => Row wd (w.heap.size + 1 + 1) 33 16 (fun _ => 0) ∧ Row wd (w.heap.size + 1 + 1 + 1) 33 16 (fun _ => 0) ∧ Row wd p 201 17 (limb (x * 2 ^ s)) ∧ Row wd q 201 17 (limb (y * 2 ^ s)) ∧ Row wd wF.heap.size 33 16 (fun _ => 0) ∧ Below w.heap.size w wd) ⟨gRow, gRow, gRow, gRow, gRow, gUp⟩ (fun w0 hD => ?_)
  clear g3 g4 gp gq gB
  obtain ⟨g3, g4, gp, gq, gT, gB⟩ := hD
  have lt : p < wF.heap.size ∧ q < wF.heap.size := ⟨l1, l2⟩
  clear l1 l2 l5
  generalize wF.heap.size = t at *
  clear enm em1 es
  obtain ⟨P, hP⟩ : ∃ P, y * 2 ^ s = P := ⟨_, rfl⟩
  obtain ⟨X2, hX2⟩ : ∃ X2, x * 2 ^ s = X2 := ⟨_, rfl⟩
  have HP := hid hP
  have HX2 := hid hX2
  rw [hP] at HP1 HP2 gq
  rw [hX2] at gp
  clear hP hX2
  have hPm : sumL (limb P) m = P := by rw [sumL_limb, Nat.mod_eq_of_lt HP1.out]
  have HPm := hid hPm
  have hP0 : 0 < P := by have := HP2.out; have := bp_pos (m - 1); omega
  have HP0 := hid hP0
  clear hPm hP0
  go_wp2_with fail
  go_loopw [12] (fun ti wr => ∃ (k : Nat) (S T : Nat → Nat), k ≤ n - m + 1 ∧ ti = .int .i64 ((k : Int) - 1) ∧ (∀ j, j < 17 → S j < 18446744073709551616) ∧ (∀ j, j < 16 → T j < 18446744073709551616) ∧ (∀ j, j < k → T j = 0) ∧ X2 = sumL T 16 * P + sumL S 17 ∧ sumL S 17 < P * bp k ∧
      Row wr (w.heap.size + 1 + 1) 33 16 (fun _ => 0) ∧ Row wr (w.heap.size + 1 + 1 + 1) 33 16 (fun _ => 0) ∧ Row wr p 201 17 S ∧ Row wr q 201 17 (limb P) ∧ Row wr t 33 16 T ∧ Below w.heap.size w wr)
    (fun ti _ => (intOf ti + 1).toNat)
  case atStart =>
    refine ⟨n - m + 1, limb X2, fun _ => 0, Nat.le_refl _, ?_, fun j _ => limb_lt _ j, fun _ _ => by simp, fun _ _ => rfl, ?_, ?_, g3, g4, gp, gq, gT, gB⟩
    · congr 1; omega
    · have h1 := Hn.out
      have h2 := HX2.out
      have h3 := bp_mono hn16
      have h4 := bp_succ 16
      have h5 : 2 ^ s ≤ 18446744073709551616 := Nat.pow_le_pow_right (n := 2) (by decide) (show s ≤ 64 by omega)
      have h6 : x * 2 ^ s < bp 16 * 18446744073709551616 := Nat.mul_lt_mul_of_lt_of_le (by omega) h5 (by decide)
      rw [sumL_zeros, sumL_limb, Nat.mod_eq_of_lt (by rw [h4]; omega)]
      omega
    · have h1 := Hn.out
      have h2 := HX2.out
      have h7 := HP2.out
      have h5 : 2 ^ s ≤ 9223372036854775808 := Nat.pow_le_pow_right (n := 2) (by decide) (show s ≤ 63 by omega)
      have h6 : x * 2 ^ s < bp n * 9223372036854775808 := Nat.mul_lt_mul_of_lt_of_le h1 h5 (by decide)
      have h8 : 9223372036854775808 * bp (m - 1) * bp (n - m + 1) ≤ P * bp (n - m + 1) := Nat.mul_le_mul_right _ h7
      rw [Nat.mul_assoc, ← bp_add, show m - 1 + (n - m + 1) = n by omega] at h8
      have h9 := Nat.mod_le X2 (bp 17)
      rw [sumL_limb]
      omega
  case round =>
    clear g3 g4 gp gq gT gB
    obtain ⟨k, S, T, hk, rfl, hS, hT, hT0, hX, hR, g3, g4, gp, gq, gT, gB⟩ := hrel
    have HS := hid hS
    have HT := hid hT
    have HT0 := hid hT0
    have HX := hid hX
    have HR := hid hR
    clear hS hT hT0 hX hR
    rcases Nat.eq_zero_or_pos k with hk0 | hk0
    · subst hk0
      have hE : sumL T 16 = x / y ∧ sumL S 17 / 2 ^ s % bp 16 = x % y := by
        have h1 := HX.out
        have h2 := HR.out
        rw [bp_zero, Nat.mul_one] at h2
        rw [← HX2.out, ← HP.out] at h1
        rw [← HP.out] at h2
        obtain ⟨h3, h4⟩ := long_end hy0.out h1 h2
        refine ⟨h3, ?_⟩
        rw [h4]
        exact Nat.mod_eq_of_lt (Nat.lt_of_le_of_lt (Nat.mod_le _ _) Hx.out)
      have hTl : ∀ j, j < 16 → T j = limb (x / y) j := fun j hj => by rw [← hE.1]; exact (limb_sumL HT.out hj).symm
      have gT2 : Row wr t 33 16 (limb (x / y)) := gT.congr hTl
      have hRt := fun w => right_any S HS.out s hs64 w
      rw [hE.2] at hRt
      unfold longV wideV at hRt
      have HRt := hid hRt
      clear hE hTl hRt gT
      go_wp2_with fail
      refine wp_region_upS (S := (fun wq => Row wq (w.heap.size + 1 + 1) 33 16 (fun _ => 0) ∧ Row wq (w.heap.size + 1 + 1 + 1) 33 16 (fun _ => 0) ∧ Row wq p 201 17 S ∧ Row wq t 33 16 (limb (x / y)) ∧ Below w.heap.size w wq)) (req := (fun j => j != 4 && j != 5)) (by kernel_rfl) (fun _ _ h hu => ⟨(h.1).up hu, (h.2.1).up hu, (h.2.2.1).up hu, (h.2.2.2.1).up hu, below_up (h.2.2.2.2) hu⟩) ⟨gRow, gRow, gRow, gRow, gUp⟩ (fun wS hSS => ?_)
      have ⟨hS1, hS2, hS3, hS4, hSB⟩ := hSS
      clear g3 g4 gp gq gT2 gB
      refine wpAnyU_take (i := 0) (d := (some 80)) (v := _) rfl rfl (by kernel_rfl) (fun _ _ _ h => h) (fun _ _ h hu => ⟨(h.1).up hu, (h.2.1).up hu, (h.2.2.1).up hu, (h.2.2.2.1).up hu, below_up (h.2.2.2.2) hu⟩) hSS (Or.inl ⟨by rfl, fun w' hSw => yu_value (run_ld undW infoW _ rfl _ rfl hSw.2.2.2.1)⟩) ?_
      try simp only [Act.put, pu1, pu2, pu3]
      refine wpAnyU_take (i := 1) (d := (some 81)) (v := _) rfl rfl (by kernel_rfl) (fun _ _ _ h => h) (fun _ _ h hu => ⟨(h.1).up hu, (h.2.1).up hu, (h.2.2.1).up hu, (h.2.2.2.1).up hu, below_up (h.2.2.2.2) hu⟩) hSS (Or.inl ⟨by rfl, fun w' hSw => yu_value (run_ld undL infoL _ rfl _ rfl hSw.2.2.1)⟩) ?_
      try simp only [Act.put, pu1, pu2, pu3]
      refine wpAnyU_pure (i := 2) (d := (some 82)) (v := ?_) rfl rfl (by kernel_rfl) (fun _ _ _ h => h) (fun _ _ h hu => ⟨(h.1).up hu, (h.2.1).up hu, (h.2.2.1).up hu, (h.2.2.2.1).up hu, below_up (h.2.2.2.2) hu⟩) (Or.inl ⟨by rfl, fun w' _ => yu_value ?_⟩) ?_
      rotate_left
      · (go_simp; (try exact rfl))
      try simp only [Act.put, pu1, pu2, pu3]
      refine wpAnyU_take (i := 3) (d := (some 83)) (v := _) rfl rfl (by kernel_rfl) (fun _ _ _ h => h) (fun _ _ h hu => ⟨(h.1).up hu, (h.2.1).up hu, (h.2.2.1).up hu, (h.2.2.2.1).up hu, below_up (h.2.2.2.2) hu⟩) hSS (Or.inl ⟨by rfl, fun w' hSw => yu_call ?_ (HRt.out _)⟩) ?_
      · go_simp
      try simp only [Act.put, pu1, pu2, pu3]
      refine wpAnyU_one (i := 4) rfl (by kernel_rfl) (by rfl) fun w4 hw4 => ?_
      refine wp_st_rowN infoW rfl _ _ rfl _ rfl rfl ((hS1.up hw4)) ?_
      refine ⟨fun h => by simp at h, ?_⟩
      try simp only [Act.put, pu1, pu2, pu3]
      refine wpAnyU_one (i := 5) rfl (by kernel_rfl) (by rfl) fun w5 hw5 => ?_
      refine wp_st_rowN infoW rfl _ _ rfl _ rfl rfl ((((hS2.up hw4).row_other _ (show w.heap.size + 1 + 1 + 1 ≠ w.heap.size + 1 + 1 by omega)).up hw5)) ?_
      refine ⟨fun h => by simp at h, ?_⟩
      try simp only [Act.put, pu1, pu2, pu3]
      refine wpAnyU_done (by kernel_rfl) (fun wF huE => ?_) _
      have ga : Row wF (w.heap.size + 1 + 1) 33 16 (limb (x / y)) := ((((hS1.up hw4).setRow _).up hw5).row_other (cells 16 (limb (x % y))) (show w.heap.size + 1 + 1 ≠ w.heap.size + 1 + 1 + 1 by omega)).up huE
      have gb : Row wF (w.heap.size + 1 + 1 + 1) 33 16 (limb (x % y)) := ((((hS2.up hw4).row_other (cells 16 (limb (x / y))) (show w.heap.size + 1 + 1 + 1 ≠ w.heap.size + 1 + 1 by omega)).up hw5).setRow _).up huE
      have gB := below_up (below_setRow (below_up (below_setRow (below_up hSB hw4) (show w.heap.size ≤ w.heap.size + 1 + 1 by omega) (cells 16 (limb (x / y)))) hw5) (show w.heap.size ≤ w.heap.size + 1 + 1 + 1 by omega) (cells 16 (limb (x % y)))) huE
      clear hS1 hS2 hS3 hS4 hSB hSS hw4 hw5 huE
      go_wp2_with fail
      exact bodyPost_ret (resCC rfl undW infoW _ _ _ rfl rfl ga gb) rfl ⟨rfl, gB⟩
    · obtain ⟨i, rfl⟩ : ∃ i, k = i + 1 := ⟨k - 1, by omega⟩
      rw [show ((i + 1 : Nat) : Int) - 1 = (i : Nat) by omega]
      have him : i + m < 17 := by omega
      have hm1 : m = m1 + 1 := by have := Hm1.out; omega
      have HM := hid hm1
      have him1 : i + m1 < 17 := by omega
      have e1 : IntKind.i64.wrap ((i : Int) + (m : Int)) = (i : Int) + (m : Int) := IntWalk.i64_in _ (by omega)
      have e2 : IntKind.i64.wrap ((i : Int) + (m : Int) - 1) = (i : Int) + (m1 : Int) := by rw [IntWalk.i64_in _ (by omega)]; omega
      have e3 : IntKind.i64.wrap ((m : Int) - 1) = (m1 : Int) := by rw [IntWalk.i64_in _ (by omega)]; omega
      have e4 : ((i : Int) + (m : Int)).toNat = i + m := by omega
      have e5 : ((i : Int) + (m1 : Int)).toNat = i + m1 := by omega
      have j1 : (i : Int) + (m : Int) < 17 := by omega
      have j2 : (0 : Int) ≤ (i : Int) + (m : Int) := by omega
      have j3 : (i : Int) + (m1 : Int) < 17 := by omega
      have j4 : (0 : Int) ≤ (i : Int) + (m1 : Int) := by omega
      have j5 : (m1 : Int) < 17 := by omega
      have e6 : IntKind.i64.wrap ((i : Int) + (m : Int) + 1) = (i : Int) + (m : Int) + 1 := IntWalk.i64_in _ (by omega)
      have hgs := fun w => guess_any (S (i + m)) (S (i + m1)) (limb P m1) (HS.out _ him) (HS.out _ him1) (limb_lt _ _) w
      have hgl := guess_lt (h := S (i + m)) (y := limb P m1) (HS.out _ him1)
      obtain ⟨g, hg⟩ : ∃ g, guessN (S (i + m)) (S (i + m1)) (limb P m1) = g := ⟨_, rfl⟩
      rw [hg] at hgs hgl
      have HG := hid hgs
      have Hg := hid hg
      have HGL := hid hgl
      clear hgs hg hgl hm1
      have c1 := gp.cell (i + m) him
      have c2 := gp.cell (i + m1) him1
      have c3 := gq.cell m1 (by omega)
      go_wp2_with fail
      refine wp_region_upS (S := (fun wq => Row wq (w.heap.size + 1 + 1) 33 16 (fun _ => 0) ∧ Row wq (w.heap.size + 1 + 1 + 1) 33 16 (fun _ => 0) ∧ Row wq p 201 17 S ∧ Row wq q 201 17 (limb P) ∧ Row wq t 33 16 T ∧ wq.cell? ⟨p, i + m, none⟩ = some (.int .u64 (S (i + m) : Nat)) ∧ wq.cell? ⟨p, i + m1, none⟩ = some (.int .u64 (S (i + m1) : Nat)) ∧ wq.cell? ⟨q, m1, none⟩ = some (.int .u64 (limb P m1 : Nat)) ∧ Below w.heap.size w wq)) (req := (fun _ => true)) (by kernel_rfl) (fun _ _ h hu => ⟨(h.1).up hu, (h.2.1).up hu, (h.2.2.1).up hu, (h.2.2.2.1).up hu, (h.2.2.2.2.1).up hu, hu.cell (h.2.2.2.2.2.1), hu.cell (h.2.2.2.2.2.2.1), hu.cell (h.2.2.2.2.2.2.2.1), below_up (h.2.2.2.2.2.2.2.2) hu⟩) ⟨gRow, gRow, gRow, gRow, gRow, (by first | assumption | (apply Blk.cell; exact gBlk; exact rfl)), (by first | assumption | (apply Blk.cell; exact gBlk; exact rfl)), (by first | assumption | (apply Blk.cell; exact gBlk; exact rfl)), gUp⟩ (fun wS hSS => ?_)
      have ⟨hS1, hS2, hS3, hS4, hS5, hS6, hS7, hS8, hSB⟩ := hSS
      clear g3 g4 gp gq gT gB c1 c2 c3
      refine wpAnyU_pure (i := 0) (d := (some 38)) (v := ?_) rfl rfl (by kernel_rfl) (fun _ _ _ h => h) (fun _ _ h hu => ⟨(h.1).up hu, (h.2.1).up hu, (h.2.2.1).up hu, (h.2.2.2.1).up hu, (h.2.2.2.2.1).up hu, hu.cell (h.2.2.2.2.2.1), hu.cell (h.2.2.2.2.2.2.1), hu.cell (h.2.2.2.2.2.2.2.1), below_up (h.2.2.2.2.2.2.2.2) hu⟩) (Or.inl ⟨by rfl, fun w' _ => yu_value ?_⟩) ?_
      rotate_left
      · (go_simp; (try exact rfl))
      try simp only [Act.put, pu1, pu2, pu3]
      refine wpAnyU_pure (i := 1) (d := (some 39)) (v := ?_) rfl rfl (by kernel_rfl) (fun _ _ _ h => h) (fun _ _ h hu => ⟨(h.1).up hu, (h.2.1).up hu, (h.2.2.1).up hu, (h.2.2.2.1).up hu, (h.2.2.2.2.1).up hu, hu.cell (h.2.2.2.2.2.1), hu.cell (h.2.2.2.2.2.2.1), hu.cell (h.2.2.2.2.2.2.2.1), below_up (h.2.2.2.2.2.2.2.2) hu⟩) (Or.inl ⟨by rfl, fun w' _ => yu_value ?_⟩) ?_
      rotate_left
      · (go_simp; (try exact rfl))
      try simp only [Act.put, pu1, pu2, pu3]
      refine wpAnyU_pure (i := 2) (d := (some 40)) (v := ?_) rfl rfl (by kernel_rfl) (fun _ _ _ h => h) (fun _ _ h hu => ⟨(h.1).up hu, (h.2.1).up hu, (h.2.2.1).up hu, (h.2.2.2.1).up hu, (h.2.2.2.2.1).up hu, hu.cell (h.2.2.2.2.2.1), hu.cell (h.2.2.2.2.2.2.1), hu.cell (h.2.2.2.2.2.2.2.1), below_up (h.2.2.2.2.2.2.2.2) hu⟩) (Or.inl ⟨by rfl, fun w' _ => yu_value ?_⟩) ?_
      rotate_left
      · (go_simp; (try exact rfl))
      try simp only [Act.put, pu1, pu2, pu3]
      refine wpAnyU_pure (i := 3) (d := (some 41)) (v := ?_) rfl rfl (by kernel_rfl) (fun _ _ _ h => h) (fun _ _ h hu => ⟨(h.1).up hu, (h.2.1).up hu, (h.2.2.1).up hu, (h.2.2.2.1).up hu, (h.2.2.2.2.1).up hu, hu.cell (h.2.2.2.2.2.1), hu.cell (h.2.2.2.2.2.2.1), hu.cell (h.2.2.2.2.2.2.2.1), below_up (h.2.2.2.2.2.2.2.2) hu⟩) (Or.inl ⟨by rfl, fun w' _ => yu_value ?_⟩) ?_
      rotate_left
      · (go_simp; (try exact rfl))
      try simp only [Act.put, pu1, pu2, pu3]
      refine wpAnyU_take (i := 4) (d := (some 42)) (v := ?_) rfl rfl (by kernel_rfl) (fun _ _ _ h => h) (fun _ _ h hu => ⟨(h.1).up hu, (h.2.1).up hu, (h.2.2.1).up hu, (h.2.2.2.1).up hu, (h.2.2.2.2.1).up hu, hu.cell (h.2.2.2.2.2.1), hu.cell (h.2.2.2.2.2.2.1), hu.cell (h.2.2.2.2.2.2.2.1), below_up (h.2.2.2.2.2.2.2.2) hu⟩) hSS (Or.inl ⟨by rfl, fun w' hSw => yu_value ?_⟩) ?_
      rotate_left
      · ((try dsimp only at hSw); (try obtain ⟨_, _, _, _, _, _, _, _, _⟩ := hSw); go_simp; (try exact rfl))
      try simp only [Act.put, pu1, pu2, pu3]
      refine wpAnyU_pure (i := 5) (d := (some 43)) (v := ?_) rfl rfl (by kernel_rfl) (fun _ _ _ h => h) (fun _ _ h hu => ⟨(h.1).up hu, (h.2.1).up hu, (h.2.2.1).up hu, (h.2.2.2.1).up hu, (h.2.2.2.2.1).up hu, hu.cell (h.2.2.2.2.2.1), hu.cell (h.2.2.2.2.2.2.1), hu.cell (h.2.2.2.2.2.2.2.1), below_up (h.2.2.2.2.2.2.2.2) hu⟩) (Or.inl ⟨by rfl, fun w' _ => yu_value ?_⟩) ?_
      rotate_left
      · (go_simp; (try exact rfl))
      try simp only [Act.put, pu1, pu2, pu3]
      refine wpAnyU_pure (i := 6) (d := (some 44)) (v := ?_) rfl rfl (by kernel_rfl) (fun _ _ _ h => h) (fun _ _ h hu => ⟨(h.1).up hu, (h.2.1).up hu, (h.2.2.1).up hu, (h.2.2.2.1).up hu, (h.2.2.2.2.1).up hu, hu.cell (h.2.2.2.2.2.1), hu.cell (h.2.2.2.2.2.2.1), hu.cell (h.2.2.2.2.2.2.2.1), below_up (h.2.2.2.2.2.2.2.2) hu⟩) (Or.inl ⟨by rfl, fun w' _ => yu_value ?_⟩) ?_
      rotate_left
      · (go_simp; (try exact rfl))
      try simp only [Act.put, pu1, pu2, pu3]
      refine wpAnyU_pure (i := 7) (d := (some 45)) (v := ?_) rfl rfl (by kernel_rfl) (fun _ _ _ h => h) (fun _ _ h hu => ⟨(h.1).up hu, (h.2.1).up hu, (h.2.2.1).up hu, (h.2.2.2.1).up hu, (h.2.2.2.2.1).up hu, hu.cell (h.2.2.2.2.2.1), hu.cell (h.2.2.2.2.2.2.1), hu.cell (h.2.2.2.2.2.2.2.1), below_up (h.2.2.2.2.2.2.2.2) hu⟩) (Or.inl ⟨by rfl, fun w' _ => yu_value ?_⟩) ?_
      rotate_left
      · (go_simp; (try exact rfl))
      try simp only [Act.put, pu1, pu2, pu3]
      refine wpAnyU_pure (i := 8) (d := (some 46)) (v := ?_) rfl rfl (by kernel_rfl) (fun _ _ _ h => h) (fun _ _ h hu => ⟨(h.1).up hu, (h.2.1).up hu, (h.2.2.1).up hu, (h.2.2.2.1).up hu, (h.2.2.2.2.1).up hu, hu.cell (h.2.2.2.2.2.1), hu.cell (h.2.2.2.2.2.2.1), hu.cell (h.2.2.2.2.2.2.2.1), below_up (h.2.2.2.2.2.2.2.2) hu⟩) (Or.inl ⟨by rfl, fun w' _ => yu_value ?_⟩) ?_
      rotate_left
      · (go_simp; (try exact rfl))
      try simp only [Act.put, pu1, pu2, pu3]
      refine wpAnyU_pure (i := 9) (d := (some 47)) (v := ?_) rfl rfl (by kernel_rfl) (fun _ _ _ h => h) (fun _ _ h hu => ⟨(h.1).up hu, (h.2.1).up hu, (h.2.2.1).up hu, (h.2.2.2.1).up hu, (h.2.2.2.2.1).up hu, hu.cell (h.2.2.2.2.2.1), hu.cell (h.2.2.2.2.2.2.1), hu.cell (h.2.2.2.2.2.2.2.1), below_up (h.2.2.2.2.2.2.2.2) hu⟩) (Or.inl ⟨by rfl, fun w' _ => yu_value ?_⟩) ?_
      rotate_left
      · (go_simp; (try exact rfl))
      try simp only [Act.put, pu1, pu2, pu3]
      refine wpAnyU_take (i := 10) (d := (some 48)) (v := ?_) rfl rfl (by kernel_rfl) (fun _ _ _ h => h) (fun _ _ h hu => ⟨(h.1).up hu, (h.2.1).up hu, (h.2.2.1).up hu, (h.2.2.2.1).up hu, (h.2.2.2.2.1).up hu, hu.cell (h.2.2.2.2.2.1), hu.cell (h.2.2.2.2.2.2.1), hu.cell (h.2.2.2.2.2.2.2.1), below_up (h.2.2.2.2.2.2.2.2) hu⟩) hSS (Or.inl ⟨by rfl, fun w' hSw => yu_value ?_⟩) ?_
      rotate_left
      · ((try dsimp only at hSw); (try obtain ⟨_, _, _, _, _, _, _, _, _⟩ := hSw); go_simp; (try exact rfl))
      try simp only [Act.put, pu1, pu2, pu3]
      refine wpAnyU_pure (i := 11) (d := (some 49)) (v := ?_) rfl rfl (by kernel_rfl) (fun _ _ _ h => h) (fun _ _ h hu => ⟨(h.1).up hu, (h.2.1).up hu, (h.2.2.1).up hu, (h.2.2.2.1).up hu, (h.2.2.2.2.1).up hu, hu.cell (h.2.2.2.2.2.1), hu.cell (h.2.2.2.2.2.2.1), hu.cell (h.2.2.2.2.2.2.2.1), below_up (h.2.2.2.2.2.2.2.2) hu⟩) (Or.inl ⟨by rfl, fun w' _ => yu_value ?_⟩) ?_
      rotate_left
      · (go_simp; (try exact rfl))
      try simp only [Act.put, pu1, pu2, pu3]
      refine wpAnyU_pure (i := 12) (d := (some 50)) (v := ?_) rfl rfl (by kernel_rfl) (fun _ _ _ h => h) (fun _ _ h hu => ⟨(h.1).up hu, (h.2.1).up hu, (h.2.2.1).up hu, (h.2.2.2.1).up hu, (h.2.2.2.2.1).up hu, hu.cell (h.2.2.2.2.2.1), hu.cell (h.2.2.2.2.2.2.1), hu.cell (h.2.2.2.2.2.2.2.1), below_up (h.2.2.2.2.2.2.2.2) hu⟩) (Or.inl ⟨by rfl, fun w' _ => yu_value ?_⟩) ?_
      rotate_left
      · (go_simp; (try exact rfl))
      try simp only [Act.put, pu1, pu2, pu3]
      refine wpAnyU_pure (i := 13) (d := (some 51)) (v := ?_) rfl rfl (by kernel_rfl) (fun _ _ _ h => h) (fun _ _ h hu => ⟨(h.1).up hu, (h.2.1).up hu, (h.2.2.1).up hu, (h.2.2.2.1).up hu, (h.2.2.2.2.1).up hu, hu.cell (h.2.2.2.2.2.1), hu.cell (h.2.2.2.2.2.2.1), hu.cell (h.2.2.2.2.2.2.2.1), below_up (h.2.2.2.2.2.2.2.2) hu⟩) (Or.inl ⟨by rfl, fun w' _ => yu_value ?_⟩) ?_
      rotate_left
      · (go_simp; (try exact rfl))
      try simp only [Act.put, pu1, pu2, pu3]
      refine wpAnyU_take (i := 14) (d := (some 52)) (v := ?_) rfl rfl (by kernel_rfl) (fun _ _ _ h => h) (fun _ _ h hu => ⟨(h.1).up hu, (h.2.1).up hu, (h.2.2.1).up hu, (h.2.2.2.1).up hu, (h.2.2.2.2.1).up hu, hu.cell (h.2.2.2.2.2.1), hu.cell (h.2.2.2.2.2.2.1), hu.cell (h.2.2.2.2.2.2.2.1), below_up (h.2.2.2.2.2.2.2.2) hu⟩) hSS (Or.inl ⟨by rfl, fun w' hSw => yu_value ?_⟩) ?_
      rotate_left
      · ((try dsimp only at hSw); (try obtain ⟨_, _, _, _, _, _, _, _, _⟩ := hSw); go_simp; (try exact rfl))
      try simp only [Act.put, pu1, pu2, pu3]
      refine wpAnyU_take (i := 15) (d := (some 53)) (v := _) rfl rfl (by kernel_rfl) (fun _ _ _ h => h) (fun _ _ h hu => ⟨(h.1).up hu, (h.2.1).up hu, (h.2.2.1).up hu, (h.2.2.2.1).up hu, (h.2.2.2.2.1).up hu, hu.cell (h.2.2.2.2.2.1), hu.cell (h.2.2.2.2.2.2.1), hu.cell (h.2.2.2.2.2.2.2.1), below_up (h.2.2.2.2.2.2.2.2) hu⟩) hSS (Or.inl ⟨by rfl, fun w' hSw => yu_call ?_ (HG.out _)⟩) ?_
      · go_simp
      try simp only [Act.put, pu1, pu2, pu3]
      refine wpAnyU_pure (i := 16) (d := (some 13)) (v := ?_) rfl rfl (by kernel_rfl) (fun _ _ _ h => h) (fun _ _ h hu => ⟨(h.1).up hu, (h.2.1).up hu, (h.2.2.1).up hu, (h.2.2.2.1).up hu, (h.2.2.2.2.1).up hu, hu.cell (h.2.2.2.2.2.1), hu.cell (h.2.2.2.2.2.2.1), hu.cell (h.2.2.2.2.2.2.2.1), below_up (h.2.2.2.2.2.2.2.2) hu⟩) (Or.inl ⟨by rfl, fun w' _ => yu_value ?_⟩) ?_
      rotate_left
      · (go_simp; (try exact rfl))
      try simp only [Act.put, pu1, pu2, pu3]
      refine wpAnyU_done (by kernel_rfl) (fun wF huE => ?_) _
      have g3 := hS1.up huE
      have g4 := hS2.up huE
      have gp := hS3.up huE
      have gq := hS4.up huE
      have gT := hS5.up huE
      have gB := below_up hSB huE
      clear hS1 hS2 hS3 hS4 hS5 hS6 hS7 hS8 hSB hSS huE
      go_wp2_with fail
      refine wp_region_upS (S := (fun wq => Row wq (w.heap.size + 1 + 1) 33 16 (fun _ => 0) ∧ Row wq (w.heap.size + 1 + 1 + 1) 33 16 (fun _ => 0) ∧ Row wq p 201 17 S ∧ Row wq q 201 17 (limb P) ∧ Row wq t 33 16 T ∧ Below w.heap.size w wq)) (req := (fun j => j != 9)) (by kernel_rfl) (fun _ _ h hu => ⟨(h.1).up hu, (h.2.1).up hu, (h.2.2.1).up hu, (h.2.2.2.1).up hu, (h.2.2.2.2.1).up hu, below_up (h.2.2.2.2.2) hu⟩) ⟨gRow, gRow, gRow, gRow, gRow, gUp⟩ (fun wS hSS => ?_)
      have ⟨hS1, hS2, hS3, hS4, hS5, hSB⟩ := hSS
      clear g3 g4 gp gq gT gB
      have sl1 := fun w' => slice_win (p := p) him w'
      have sl2 := fun w' => slice_low (q := q) (m := m) (by omega) w'
      refine wpAnyU_pure (i := 0) (d := (some 54)) (v := ?_) rfl rfl (by kernel_rfl) (fun _ _ _ h => h) (fun _ _ h hu => ⟨(h.1).up hu, (h.2.1).up hu, (h.2.2.1).up hu, (h.2.2.2.1).up hu, (h.2.2.2.2.1).up hu, below_up (h.2.2.2.2.2) hu⟩) (Or.inl ⟨by rfl, fun w' _ => yu_value ?_⟩) ?_
      rotate_left
      · (go_simp; (try exact rfl))
      try simp only [Act.put, pu1, pu2, pu3]
      refine wpAnyU_pure (i := 1) (d := (some 55)) (v := ?_) rfl rfl (by kernel_rfl) (fun _ _ _ h => h) (fun _ _ h hu => ⟨(h.1).up hu, (h.2.1).up hu, (h.2.2.1).up hu, (h.2.2.2.1).up hu, (h.2.2.2.2.1).up hu, below_up (h.2.2.2.2.2) hu⟩) (Or.inl ⟨by rfl, fun w' _ => yu_value ?_⟩) ?_
      rotate_left
      · (go_simp; (try exact rfl))
      try simp only [Act.put, pu1, pu2, pu3]
      refine wpAnyU_pure (i := 2) (d := (some 56)) (v := ?_) rfl rfl (by kernel_rfl) (fun _ _ _ h => h) (fun _ _ h hu => ⟨(h.1).up hu, (h.2.1).up hu, (h.2.2.1).up hu, (h.2.2.2.1).up hu, (h.2.2.2.2.1).up hu, below_up (h.2.2.2.2.2) hu⟩) (Or.inl ⟨by rfl, fun w' _ => yu_value ?_⟩) ?_
      rotate_left
      · (go_simp; (try exact rfl))
      try simp only [Act.put, pu1, pu2, pu3]
      refine wpAnyU_pure (i := 3) (d := (some 57)) (v := ?_) rfl rfl (by kernel_rfl) (fun _ _ _ h => h) (fun _ _ h hu => ⟨(h.1).up hu, (h.2.1).up hu, (h.2.2.1).up hu, (h.2.2.2.1).up hu, (h.2.2.2.2.1).up hu, below_up (h.2.2.2.2.2) hu⟩) (Or.inl ⟨by rfl, fun w' _ => yu_value ?_⟩) ?_
      rotate_left
      · (go_simp; (try exact rfl))
      try simp only [Act.put, pu1, pu2, pu3]
      refine wpAnyU_pure (i := 4) (d := (some 58)) (v := ?_) rfl rfl (by kernel_rfl) (fun _ _ _ h => h) (fun _ _ h hu => ⟨(h.1).up hu, (h.2.1).up hu, (h.2.2.1).up hu, (h.2.2.2.1).up hu, (h.2.2.2.2.1).up hu, below_up (h.2.2.2.2.2) hu⟩) (Or.inl ⟨by rfl, fun w' _ => yu_value ?_⟩) ?_
      rotate_left
      · (go_simp; (try exact rfl))
      try simp only [Act.put, pu1, pu2, pu3]
      refine wpAnyU_pure (i := 5) (d := (some 59)) (v := ?_) rfl rfl (by kernel_rfl) (fun _ _ _ h => h) (fun _ _ h hu => ⟨(h.1).up hu, (h.2.1).up hu, (h.2.2.1).up hu, (h.2.2.2.1).up hu, (h.2.2.2.2.1).up hu, below_up (h.2.2.2.2.2) hu⟩) (Or.inl ⟨by rfl, fun w' _ => yu_value ?_⟩) ?_
      rotate_left
      · (go_simp; (try exact rfl))
      try simp only [Act.put, pu1, pu2, pu3]
      refine wpAnyU_pure (i := 6) (d := (some 60)) (v := ?_) rfl rfl (by kernel_rfl) (fun _ _ _ h => h) (fun _ _ h hu => ⟨(h.1).up hu, (h.2.1).up hu, (h.2.2.1).up hu, (h.2.2.2.1).up hu, (h.2.2.2.2.1).up hu, below_up (h.2.2.2.2.2) hu⟩) (Or.inl ⟨by rfl, fun w' _ => yu_value ?_⟩) ?_
      rotate_left
      · (go_simp; (try exact rfl))
      try simp only [Act.put, pu1, pu2, pu3]
      refine wpAnyU_pure (i := 7) (d := (some 61)) (v := ?_) rfl rfl (by kernel_rfl) (fun _ _ _ h => h) (fun _ _ h hu => ⟨(h.1).up hu, (h.2.1).up hu, (h.2.2.1).up hu, (h.2.2.2.1).up hu, (h.2.2.2.2.1).up hu, below_up (h.2.2.2.2.2) hu⟩) (Or.inl ⟨by rfl, fun w' _ => yu_value ?_⟩) ?_
      rotate_left
      · (go_simp; (try exact rfl))
      try simp only [Act.put, pu1, pu2, pu3]
      refine wpAnyU_pure (i := 8) (d := (some 62)) (v := ?_) rfl rfl (by kernel_rfl) (fun _ _ _ h => h) (fun _ _ h hu => ⟨(h.1).up hu, (h.2.1).up hu, (h.2.2.1).up hu, (h.2.2.2.1).up hu, (h.2.2.2.2.1).up hu, below_up (h.2.2.2.2.2) hu⟩) (Or.inl ⟨by rfl, fun w' _ => yu_value ?_⟩) ?_
      rotate_left
      · (go_simp; (try exact rfl))
      try simp only [Act.put, pu1, pu2, pu3]
      refine wpAnyU_callN (i := 9) (d := some 63) (f := 147) (args := #[.slice (some ⟨p, i, none⟩) (m + 1) (17 - i), .slice (some ⟨q, 0, none⟩) m 17, .int .u64 (g : Nat)]) (R := fun w' v w'' => ∃ (S' : Nat → Nat) (b : Nat), v = .bool (decide (b ≠ 0)) ∧ b ≤ 1 ∧ sumL (fun j => S' (i + j)) (m + 1) + g * P = sumL (fun j => S (i + j)) (m + 1) + b * bp (m + 1) ∧ (∀ j, j < i ∨ i + m < j → S' j = S j) ∧ (∀ j, j < 17 → S' j < 18446744073709551616) ∧ Row w'' p 201 17 S' ∧ Near p w' w'') rfl rfl (by kernel_rfl) (by rfl) rfl (fun w' => by go_simp) (fun w' hw' => ?_) (fun w1 v w2 hw1 hR1 => ?_)
      · refine (take_off p i m q (17 - i) 17 g S (limb P) HS.out (fun j _ => limb_lt _ j) hpq him HGL.out w' (hS3.up hw') (hS4.up hw')).mono ?_
        rintro e w'' ⟨S', b, rfl, h1, h2, h3, h4, h5, h6⟩
        rw [HPm.out] at h2
        exact ⟨_, rfl, S', b, rfl, h1, h2, h3, h4, h5, h6⟩
      try simp only [Act.put, pu1, pu2, pu3]
      obtain ⟨S1, b, rfl, hb, he, ho, hl, gp, hN⟩ := hR1
      have He := hid he
      have Ho := hid ho
      have Hl := hid hl
      clear he ho hl
      refine wpAnyU_pure (i := 10) (d := (some 14)) (v := ?_) rfl rfl (by kernel_rfl) (fun _ _ _ h => h) (fun _ _ h hu => ⟨(h.1).up hu, (h.2.1).up hu, (h.2.2.1).up hu, (h.2.2.2.1).up hu, (h.2.2.2.2.1).up hu, below_up (h.2.2.2.2.2) hu⟩) (Or.inl ⟨by rfl, fun w' _ => yu_value ?_⟩) ?_
      rotate_left
      · (go_simp; (try exact rfl))
      try simp only [Act.put, pu1, pu2, pu3]
      refine wpAnyU_done (by kernel_rfl) (fun wF huE => ?_) _
      have l1 := (hSB.size : w.heap.size ≤ wS.heap.size)
      have l2 := hw1.size
      have g3 := (hN.row (show w.heap.size + 1 + 1 ≠ p by omega) (hS1.up hw1)).up huE
      have g4 := (hN.row (show w.heap.size + 1 + 1 + 1 ≠ p by omega) (hS2.up hw1)).up huE
      have gq := (hN.row (Ne.symm hpq) (hS4.up hw1)).up huE
      have gT := (hN.row (show t ≠ p by omega) (hS5.up hw1)).up huE
      have gB := below_up (hN.below (show w.heap.size ≤ p by omega) (below_up hSB hw1) (by omega)) huE
      replace gp := gp.up huE
      clear hS1 hS2 hS3 hS4 hS5 hSB hSS huE hw1 hN l1 l2
      obtain ⟨W, hW⟩ : ∃ W, sumL (fun j => S (i + j)) (m + 1) = W := ⟨_, rfl⟩
      have HW := hid hW
      have hq0 : W / P ≤ g := by
        have h1 := HR.out
        have h2 : m = m1 + 1 := HM.out
        have h3 : W < P * 18446744073709551616 := by
          have h4 : W * bp i ≤ sumL S 17 := by
            obtain ⟨d, hd⟩ : ∃ d, 17 = i + (m + 1) + d := ⟨17 - (i + (m + 1)), by omega⟩
            rw [hd, sumL_split, sumL_split, hW]
            omega
          rw [bp_succ] at h1
          have h5 : W * bp i < P * 18446744073709551616 * bp i := by
            have e : P * 18446744073709551616 * bp i = P * (bp i * 18446744073709551616) := by grind
            omega
          exact Nat.lt_of_mul_lt_mul_right h5
        have h6 := guess_ge (F := fun j => S (i + j)) (V := limb P) (m := m1) (P := P) (W := W) (fun j hj => HS.out _ (by omega)) (by show sumL (fun j => S (i + j)) (m1 + 1 + 1) = W; rw [← h2]; exact hW) (by rw [← h2]; exact HPm.out) HP0.out h3
        rw [← h2, Hg.out] at h6
        exact h6
      have he := He.out
      rw [hW] at he
      clear He
      have He := hid he
      have Hq0 := hid hq0
      clear hW he hq0
      go_wp2_with fail
      go_loopw [13, 14] (fun tg tv wr => ∃ (g b : Nat) (S1 : Nat → Nat), tg = .int .u64 (g : Nat) ∧ tv = .bool (!decide (b = 0)) ∧ b ≤ 1 ∧ g < 18446744073709551616 ∧ W / P ≤ g ∧ sumL (fun j => S1 (i + j)) (m + 1) + g * P = W + b * bp (m + 1) ∧ (∀ j, j < i ∨ i + m < j → S1 j = S j) ∧ (∀ j, j < 17 → S1 j < 18446744073709551616) ∧
          Row wr (w.heap.size + 1 + 1) 33 16 (fun _ => 0) ∧ Row wr (w.heap.size + 1 + 1 + 1) 33 16 (fun _ => 0) ∧ Row wr p 201 17 S1 ∧ Row wr q 201 17 (limb P) ∧ Row wr t 33 16 T ∧ Below w.heap.size w wr)
        (fun tg _ _ => (intOf tg).toNat)
      case atStart => exact ⟨g, b, S1, rfl, rfl, hb, HGL.out, Hq0.out, He.out, Ho.out, Hl.out, g3, g4, gp, gq, gT, gB⟩
      case round =>
        clear g3 g4 gp gq gT gB He Ho Hl Hq0 hb Hg HGL HG S1
        obtain ⟨g, b, S1, rfl, rfl, hb, hgl, hq0, he, ho, hl, g3, g4, gp, gq, gT, gB⟩ := hrel
        have He := hid he
        have Ho := hid ho
        have Hl := hid hl
        have Hq0 := hid hq0
        have Hgl := hid hgl
        clear he ho hl hq0 hgl
        rcases (show b = 0 ∨ b = 1 by omega) with rfl | rfl
        · have he := He.out
          rw [Nat.zero_mul, Nat.add_zero] at he
          obtain ⟨hlt, hgq⟩ := round_end he Hq0.out HP0.out
          have hR2 := HR.out
          have hR3 : sumL S 17 < bp (i + m + 1) := by
            have h1 := HP1.out
            have h2 : P * bp (i + 1) ≤ bp m * bp (i + 1) := Nat.mul_le_mul_right _ (Nat.le_of_lt h1)
            rw [← bp_add, show m + (i + 1) = i + m + 1 by omega] at h2
            omega
          obtain ⟨hX1, hX3⟩ := long_step him (by omega) HS.out HX.out (HT0.out i (by omega)) hR3 HW.out rfl Ho.out he hlt
          have HX1 := hid hX1
          have HX3 := hid hX3
          have e7 : IntKind.i64.wrap ((i : Int) - 1) = (i : Int) - 1 := IntWalk.i64_in _ (by omega)
          have hi16 : (i : Int) < 16 := by omega
          have hct := gT.cell i (by omega)
          have hft := gT.frozen i
          have gT1 := gT.set i g
          have lt1 := lt.1
          have gp1 := gp.other ⟨t, i, none⟩ (.int .u64 (g : Nat)) (show p ≠ t by omega)
          have gq1 := gq.other ⟨t, i, none⟩ (.int .u64 (g : Nat)) (show q ≠ t by omega)
          have g31 := g3.other ⟨t, i, none⟩ (.int .u64 (g : Nat)) (show w.heap.size + 1 + 1 ≠ t by omega)
          have g41 := g4.other ⟨t, i, none⟩ (.int .u64 (g : Nat)) (show w.heap.size + 1 + 1 + 1 ≠ t by omega)
          have gB1 := gB.setCell (p := ⟨t, i, none⟩) (show w.heap.size ≤ t by omega) (.int .u64 (g : Nat))
          clear he hlt hgq hR2 hR3 hX1 hX3 g3 g4 gp gq gT gB
          go_wp2_with fail
          go_roundw
          case rel => exact ⟨i, S1, upd T i g, by omega, rfl, Hl.out, upd_lt HT.out Hgl.out, fun j hj => by rw [upd_other _ _ _ (by omega)]; exact HT0.out j (by omega), HX1.out, HX3.out, g31, g41, gp1, gq1, gT1, gB1⟩
          case measure => simp [intOf] <;> omega
        · have he := He.out
          rw [Nat.one_mul] at he
          have hW1 := sumL_lt (f := fun j => S1 (i + j)) (k := m + 1) fun j hj => Hl.out _ (by omega)
          obtain ⟨hg1, hq1⟩ := round_more he hW1 HP0.out
          obtain ⟨G, hG⟩ : ∃ G, g - 1 = G := ⟨_, rfl⟩
          rw [hG] at hq1
          have HGg := hid hG
          have HGq := hid hq1
          have HG1 := hid hg1
          have hgl := Hgl.out
          have eg : IntKind.u64.wrap ((g : Int) - 1) = (G : Nat) := by rw [IntKind.wrap_u64]; omega
          clear he hW1 hg1 hq1 hG hgl
          go_wp2_with fail
          refine wp_region_upS (S := (fun wq => Row wq (w.heap.size + 1 + 1) 33 16 (fun _ => 0) ∧ Row wq (w.heap.size + 1 + 1 + 1) 33 16 (fun _ => 0) ∧ Row wq p 201 17 S1 ∧ Row wq q 201 17 (limb P) ∧ Row wq t 33 16 T ∧ Below w.heap.size w wq)) (req := (fun j => j != 8)) (by kernel_rfl) (fun _ _ h hu => ⟨(h.1).up hu, (h.2.1).up hu, (h.2.2.1).up hu, (h.2.2.2.1).up hu, (h.2.2.2.2.1).up hu, below_up (h.2.2.2.2.2) hu⟩) ⟨gRow, gRow, gRow, gRow, gRow, gUp⟩ (fun wS hSS => ?_)
          have ⟨hS1, hS2, hS3, hS4, hS5, hSB⟩ := hSS
          clear g3 g4 gp gq gT gB
          refine wpAnyU_pure (i := 0) (d := (some 67)) (v := ?_) rfl rfl (by kernel_rfl) (fun _ _ _ h => h) (fun _ _ h hu => ⟨(h.1).up hu, (h.2.1).up hu, (h.2.2.1).up hu, (h.2.2.2.1).up hu, (h.2.2.2.2.1).up hu, below_up (h.2.2.2.2.2) hu⟩) (Or.inl ⟨by rfl, fun w' _ => yu_value ?_⟩) ?_
          rotate_left
          · (go_simp; (try exact rfl))
          try simp only [Act.put, pu1, pu2, pu3]
          refine wpAnyU_pure (i := 1) (d := (some 68)) (v := ?_) rfl rfl (by kernel_rfl) (fun _ _ _ h => h) (fun _ _ h hu => ⟨(h.1).up hu, (h.2.1).up hu, (h.2.2.1).up hu, (h.2.2.2.1).up hu, (h.2.2.2.2.1).up hu, below_up (h.2.2.2.2.2) hu⟩) (Or.inl ⟨by rfl, fun w' _ => yu_value ?_⟩) ?_
          rotate_left
          · (go_simp; (try exact rfl))
          try simp only [Act.put, pu1, pu2, pu3]
          refine wpAnyU_pure (i := 2) (d := (some 69)) (v := ?_) rfl rfl (by kernel_rfl) (fun _ _ _ h => h) (fun _ _ h hu => ⟨(h.1).up hu, (h.2.1).up hu, (h.2.2.1).up hu, (h.2.2.2.1).up hu, (h.2.2.2.2.1).up hu, below_up (h.2.2.2.2.2) hu⟩) (Or.inl ⟨by rfl, fun w' _ => yu_value ?_⟩) ?_
          rotate_left
          · (go_simp; (try exact rfl))
          try simp only [Act.put, pu1, pu2, pu3]
          refine wpAnyU_pure (i := 3) (d := (some 70)) (v := ?_) rfl rfl (by kernel_rfl) (fun _ _ _ h => h) (fun _ _ h hu => ⟨(h.1).up hu, (h.2.1).up hu, (h.2.2.1).up hu, (h.2.2.2.1).up hu, (h.2.2.2.2.1).up hu, below_up (h.2.2.2.2.2) hu⟩) (Or.inl ⟨by rfl, fun w' _ => yu_value ?_⟩) ?_
          rotate_left
          · (go_simp; (try exact rfl))
          try simp only [Act.put, pu1, pu2, pu3]
          refine wpAnyU_pure (i := 4) (d := (some 71)) (v := ?_) rfl rfl (by kernel_rfl) (fun _ _ _ h => h) (fun _ _ h hu => ⟨(h.1).up hu, (h.2.1).up hu, (h.2.2.1).up hu, (h.2.2.2.1).up hu, (h.2.2.2.2.1).up hu, below_up (h.2.2.2.2.2) hu⟩) (Or.inl ⟨by rfl, fun w' _ => yu_value ?_⟩) ?_
          rotate_left
          · (go_simp; (try exact rfl))
          try simp only [Act.put, pu1, pu2, pu3]
          refine wpAnyU_pure (i := 5) (d := (some 72)) (v := ?_) rfl rfl (by kernel_rfl) (fun _ _ _ h => h) (fun _ _ h hu => ⟨(h.1).up hu, (h.2.1).up hu, (h.2.2.1).up hu, (h.2.2.2.1).up hu, (h.2.2.2.2.1).up hu, below_up (h.2.2.2.2.2) hu⟩) (Or.inl ⟨by rfl, fun w' _ => yu_value ?_⟩) ?_
          rotate_left
          · (go_simp; (try exact rfl))
          try simp only [Act.put, pu1, pu2, pu3]
          refine wpAnyU_pure (i := 6) (d := (some 73)) (v := ?_) rfl rfl (by kernel_rfl) (fun _ _ _ h => h) (fun _ _ h hu => ⟨(h.1).up hu, (h.2.1).up hu, (h.2.2.1).up hu, (h.2.2.2.1).up hu, (h.2.2.2.2.1).up hu, below_up (h.2.2.2.2.2) hu⟩) (Or.inl ⟨by rfl, fun w' _ => yu_value ?_⟩) ?_
          rotate_left
          · (go_simp; (try exact rfl))
          try simp only [Act.put, pu1, pu2, pu3]
          refine wpAnyU_pure (i := 7) (d := (some 74)) (v := ?_) rfl rfl (by kernel_rfl) (fun _ _ _ h => h) (fun _ _ h hu => ⟨(h.1).up hu, (h.2.1).up hu, (h.2.2.1).up hu, (h.2.2.2.1).up hu, (h.2.2.2.2.1).up hu, below_up (h.2.2.2.2.2) hu⟩) (Or.inl ⟨by rfl, fun w' _ => yu_value ?_⟩) ?_
          rotate_left
          · (go_simp; (try exact rfl))
          try simp only [Act.put, pu1, pu2, pu3]
          refine wpAnyU_callN (i := 8) (d := some 75) (f := 148) (args := #[.slice (some ⟨p, i, none⟩) (m + 1) (17 - i), .slice (some ⟨q, 0, none⟩) m 17]) (R := fun w' v w'' => ∃ (S' : Nat → Nat) (b : Nat), v = .bool (decide (b ≠ 0)) ∧ b ≤ 1 ∧ sumL (fun j => S' (i + j)) (m + 1) + b * bp (m + 1) = sumL (fun j => S1 (i + j)) (m + 1) + P ∧ (∀ j, j < i ∨ i + m < j → S' j = S1 j) ∧ (∀ j, j < 17 → S' j < 18446744073709551616) ∧ Row w'' p 201 17 S' ∧ Near p w' w'') rfl rfl (by kernel_rfl) (by rfl) rfl (fun w' => by go_simp) (fun w' hw' => ?_) (fun w1 v w2 hw1 hR1 => ?_)
          · refine (put_back p i m q (17 - i) 17 S1 (limb P) Hl.out (fun j _ => limb_lt _ j) hpq him w' (hS3.up hw') (hS4.up hw')).mono ?_
            rintro e w'' ⟨S', b, rfl, h1, h2, h3, h4, h5, h6⟩
            rw [HPm.out] at h2
            exact ⟨_, rfl, S', b, rfl, h1, h2, h3, h4, h5, h6⟩
          try simp only [Act.put, pu1, pu2, pu3]
          obtain ⟨S2, b', rfl, hb', he2, ho2, hl2, gp, hN⟩ := hR1
          have Hn2 := hid (round_next (b := b') (by have := He.out; rw [Nat.one_mul] at this; exact this) he2 HG1.out hb')
          have Ho2 := hid ho2
          have Hl2 := hid hl2
          clear he2 ho2 hl2
          rcases (show b' = 0 ∨ b' = 1 by omega) with rfl | rfl
          · skip
            refine wpAnyU_pure (i := 9) (d := (some 76)) (v := ?_) rfl rfl (by kernel_rfl) (fun _ _ _ h => h) (fun _ _ h hu => ⟨(h.1).up hu, (h.2.1).up hu, (h.2.2.1).up hu, (h.2.2.2.1).up hu, (h.2.2.2.2.1).up hu, below_up (h.2.2.2.2.2) hu⟩) (Or.inl ⟨by rfl, fun w' _ => yu_value ?_⟩) ?_
            rotate_left
            · (go_simp; (try exact rfl))
            try simp only [Act.put, pu1, pu2, pu3]
            refine wpAnyU_pure (i := 10) (d := (some 14)) (v := ?_) rfl rfl (by kernel_rfl) (fun _ _ _ h => h) (fun _ _ h hu => ⟨(h.1).up hu, (h.2.1).up hu, (h.2.2.1).up hu, (h.2.2.2.1).up hu, (h.2.2.2.2.1).up hu, below_up (h.2.2.2.2.2) hu⟩) (Or.inl ⟨by rfl, fun w' _ => yu_value ?_⟩) ?_
            rotate_left
            · (go_simp; (try exact rfl))
            try simp only [Act.put, pu1, pu2, pu3]
            refine wpAnyU_done (by kernel_rfl) (fun wF huE => ?_) _
            have l1 := (hSB.size : w.heap.size ≤ wS.heap.size)
            have l2 := hw1.size
            have g3 := (hN.row (show w.heap.size + 1 + 1 ≠ p by omega) (hS1.up hw1)).up huE
            have g4 := (hN.row (show w.heap.size + 1 + 1 + 1 ≠ p by omega) (hS2.up hw1)).up huE
            have gq := (hN.row (Ne.symm hpq) (hS4.up hw1)).up huE
            have gT := (hN.row (show t ≠ p by omega) (hS5.up hw1)).up huE
            have gB := below_up (hN.below (show w.heap.size ≤ p by omega) (below_up hSB hw1) (by omega)) huE
            replace gp := gp.up huE
            clear hS1 hS2 hS3 hS4 hS5 hSB hSS huE hw1 hN l1 l2 hb'
            go_wp2_with fail
            go_roundw
            case rel =>
              have h1 := Hn2.out
              rw [HGg.out] at h1
              exact ⟨G, 1, S2, rfl, rfl, by omega, by have := Hgl.out; have := HGg.out; omega, HGq.out, h1, fun j hj => (Ho2.out j hj).trans (Ho.out j hj), Hl2.out, g3, g4, gp, gq, gT, gB⟩
            case measure => have := HGg.out; have := HG1.out; simp [intOf] <;> omega
          · skip
            refine wpAnyU_pure (i := 9) (d := (some 76)) (v := ?_) rfl rfl (by kernel_rfl) (fun _ _ _ h => h) (fun _ _ h hu => ⟨(h.1).up hu, (h.2.1).up hu, (h.2.2.1).up hu, (h.2.2.2.1).up hu, (h.2.2.2.2.1).up hu, below_up (h.2.2.2.2.2) hu⟩) (Or.inl ⟨by rfl, fun w' _ => yu_value ?_⟩) ?_
            rotate_left
            · (go_simp; (try exact rfl))
            try simp only [Act.put, pu1, pu2, pu3]
            refine wpAnyU_pure (i := 10) (d := (some 14)) (v := ?_) rfl rfl (by kernel_rfl) (fun _ _ _ h => h) (fun _ _ h hu => ⟨(h.1).up hu, (h.2.1).up hu, (h.2.2.1).up hu, (h.2.2.2.1).up hu, (h.2.2.2.2.1).up hu, below_up (h.2.2.2.2.2) hu⟩) (Or.inl ⟨by rfl, fun w' _ => yu_value ?_⟩) ?_
            rotate_left
            · (go_simp; (try exact rfl))
            try simp only [Act.put, pu1, pu2, pu3]
            refine wpAnyU_done (by kernel_rfl) (fun wF huE => ?_) _
            have l1 := (hSB.size : w.heap.size ≤ wS.heap.size)
            have l2 := hw1.size
            have g3 := (hN.row (show w.heap.size + 1 + 1 ≠ p by omega) (hS1.up hw1)).up huE
            have g4 := (hN.row (show w.heap.size + 1 + 1 + 1 ≠ p by omega) (hS2.up hw1)).up huE
            have gq := (hN.row (Ne.symm hpq) (hS4.up hw1)).up huE
            have gT := (hN.row (show t ≠ p by omega) (hS5.up hw1)).up huE
            have gB := below_up (hN.below (show w.heap.size ≤ p by omega) (below_up hSB hw1) (by omega)) huE
            replace gp := gp.up huE
            clear hS1 hS2 hS3 hS4 hS5 hSB hSS huE hw1 hN l1 l2 hb'
            go_wp2_with fail
            go_roundw
            case rel =>
              have h1 := Hn2.out
              rw [HGg.out] at h1
              exact ⟨G, 0, S2, rfl, rfl, by omega, by have := Hgl.out; have := HGg.out; omega, HGq.out, h1, fun j hj => (Ho2.out j hj).trans (Ho.out j hj), Hl2.out, g3, g4, gp, gq, gT, gB⟩
            case measure => have := HGg.out; have := HG1.out; simp [intOf] <;> omega
set_option maxHeartbeats 1000000 in
theorem divide_many (x y : Nat) (hx : x < bp 16) (hy : y < bp 16) (h : ¬ x < y) (h1 : 2 ≤ lenL (limb y) 16) (w : World) :
    Calls Tryz.prog 132 #[wideV x, wideV y] w fun e w' => e = .returned (divV x y) ∧ Up w w' := by
  have hO := fun w => order_any x y hx hy w
  have ho := ordZ_ge h
  have hL := fun w => length_any y w
  have hD := fun w => divide_long x y hx hy (by omega) h1 w
  obtain ⟨n, hn⟩ : ∃ n, lenL (limb y) 16 = n := ⟨_, rfl⟩
  rw [hn] at hL h1
  have hn1 : ((n : Int) == 1) = false := by simp; omega
  have HO := hid hO
  have HL := hid hL
  unfold divV at *
  clear hO hL h hn
  generalize ordZ x y = oz at *
  have hoz : ¬ oz < 0 := by omega
  obtain ⟨q, eq⟩ : ∃ q, x / y = q := ⟨_, rfl⟩
  obtain ⟨r, er⟩ : ∃ r, x % y = r := ⟨_, rfl⟩
  rw [eq, er] at hD ⊢
  clear eq er
  unfold wideV at *
  have HD := hid hD
  clear hD
  go_enter Tryz.func132, Tryz.ntmps132
  go_wp2_with (first | ((with_reducible apply ld_rowP undW infoW); exact rfl; exact rfl; exact gRow) | ((with_reducible apply st_rowP infoW); exact rfl; exact rfl; exact gRow) | ((with_reducible apply st_rowZ infoW); exact rfl; exact rfl; exact gRow) | (go_at_call 122; refine (HO.out _).mono ?_; rintro e w' ⟨rfl, hu⟩) | (go_at_call 140; refine (HL.out _).mono ?_; rintro e w' ⟨rfl, hu⟩) | (go_at_call 144; refine (HD.out _).mono ?_; rintro e w' ⟨rfl, hu⟩))
  exact bodyPost_ret (resCC rfl undW infoW _ _ _ rfl rfl gRow gRow) rfl ⟨rfl, gUp⟩
theorem divide_any {x y : Nat} (hx : x < bp 16) (hy : y < bp 16) (h0 : y ≠ 0) (w : World) :
    Calls Tryz.prog 132 #[wideV x, wideV y] w fun e w' => e = .returned (divV x y) ∧ Up w w' := by
  by_cases h : x < y
  · exact divide_less x y hx hy h w
  · have h1 : lenL (limb y) 16 ≠ 0 := fun e => by
      have := (lenL_zero_iff (limb y) 16).1 e
      rw [sumL_limb, Nat.mod_eq_of_lt hy] at this
      exact h0 this
    by_cases h2 : lenL (limb y) 16 = 1
    · exact divide_one x y hx hy h h2 w
    · exact divide_many x y hx hy h (by omega) w
theorem div_any {a b : Int} (ha : InR a) (hb' : InR b) (w : World) :
    Calls Tryz.prog 111 #[wideV (enc a), wideV (enc b)] w fun e w' => e = .returned (divZV a b) ∧ Up w w' :=
  div_z ha hb' (fun h w => divide_any (enc_natAbs ha).2 (enc_natAbs hb').2 (by omega) w) w
def tk (F R : List Int) (q : Int) (n : Nat) : List Int := mk n fun i => (zth F 0 * zth R (i + 1) - zth R 0 * zth F (i + 1)).tdiv q
def Few (l : List Int) : Prop := ∀ i, (zth l i).natAbs < bp 5
theorem mul_bp {a b : Int} {i j : Nat} (ha : a.natAbs < bp i) (hb' : b.natAbs < bp j) : (a * b).natAbs < bp (i + j) := by
  rw [Int.natAbs_mul, bp_add]
  exact Nat.mul_lt_mul_of_lt_of_lt ha hb'
theorem drop1_range {w : World} {g : Nat} {C : Array Value} {l : List Int} {n : Nat} (hB : Blk w g 33 C) (ht : C.toList.take (l.length * 16) = wcs l) (hl : l.length = n + 1) : w.rangeAt g 16 (wcs (l.drop 1)) := by
  intro j v hv
  have hj : j < n * 16 := by have := (List.getElem?_eq_some_iff.1 hv).1; rw [wcs_len, List.length_drop, hl] at this; omega
  refine hB.cell _ ?_
  rw [← wcs_drop (i := 1) (by omega), List.getElem?_drop, ← ht, List.getElem?_take_of_lt (by omega)] at hv
  rw [← Array.getElem?_toList]
  exact hv
theorem zth_drop (l : List Int) (i : Nat) : zth (l.drop 1) i = zth l (i + 1) := by
  unfold zth
  rw [List.getD_eq_getElem?_getD, List.getD_eq_getElem?_getD, List.getElem?_drop, Nat.add_comm]
theorem few_inR {z : Int} {k : Nat} (hk : k ≤ 15) (h : z.natAbs < bp k) : InR z := inR_bp hk h
theorem tdiv_bp {a b : Int} {k : Nat} (h : a.natAbs < bp k) : (a.tdiv b).natAbs < bp k := by
  rw [Int.natAbs_tdiv]
  exact Nat.lt_of_le_of_lt (Nat.div_le_self _ _) h
theorem up_var {w0 w2 w3 w4 : World} {C D : Array Value} {t : TypeId} (h : Up w0 w2) (h3 : Up (w2.alloc (.cells C t)) w3) (h4 : Up (w3.setRow w2.heap.size D) w4) : Up w0 w4 :=
  Up.trans (below_setRow ((h.trans (Up.alloc _ _)).trans h3) h.size D) h4
set_option maxHeartbeats 8000000 in
theorem takenoff_any {vf vr : Value} {F R : List Int} {q : Int} {n : Nat} {w : World} (hF : Wv w vf F) (hR : Wv w vr R) (lF : F.length = n + 1) (lR : R.length = n + 1) (hn : n ≤ 8)
    (bF : Few F) (bR : Few R) (bq : q.natAbs < bp 5) (q0 : q ≠ 0) :
    Calls Tryz.prog 80 #[vf, vr, wideV (enc q)] w fun r w' => ∃ z, r = .returned z ∧ Up w w' ∧ ∃ b, w.heap.size ≤ b ∧ OwnW w' b z (tk F R q n) := by
  obtain ⟨gF, cF, CF, rfl, -, hBF, htF⟩ := hF.open (by omega)
  obtain ⟨gR, cR, CR, rfl, hcR, hBR, htR⟩ := hR.open (by omega)
  obtain ⟨old, hold⟩ : ∃ o, R.drop 1 = o := ⟨_, rfl⟩
  obtain rfl : n = old.length := by rw [← hold, List.length_drop]; omega
  have hRng16 : ∀ w', Blk w' gR 33 CR → w'.rangeAt gR 16 (wcs old) := fun w' hB => hold ▸ drop1_range hB htR lR
  have HRng16 := hid hRng16
  have HRng0 : Hid (old.length = 0 → ∀ (w' : World) g o, w'.rangeAt g o (wcs old)) := hid (fun h w' g o j v hv => by rw [List.length_eq_zero_iff.1 h] at hv; exact absurd hv (by simp [wcs]))
  have HRO : Hid (∀ i, zth old i = zth R (i + 1)) := hid (fun i => by rw [← hold, zth_drop])
  rw [lF, lR]
  rw [lR] at hcR
  obtain ⟨L', hL'⟩ : ∃ x, tk F R q old.length = x := ⟨_, rfl⟩
  have hlL : L'.length = old.length := by rw [← hL']; exact mk_len _ _
  have HlL := hid hlL
  have HAt : Hid (∀ i, i < old.length → zth L' i = (zth F 0 * zth R (i + 1) - zth R 0 * zth F (i + 1)).tdiv q) := hid (fun i hi => by rw [← hL']; exact mk_at hi)
  have HtF := hid htF
  have HtR := hid htR
  have HlF := hid lF
  have HlR := hid lR
  have hq : InR q := few_inR (by omega) bq
  rw [hL']
  obtain ⟨wS, hwS⟩ : ∃ x, w.alloc (.cells (cells 16 (limb (enc q))) 33) = x := ⟨_, rfl⟩
  have hBox : Row wS w.heap.size 33 16 (limb (enc q)) := by rw [← hwS]; exact row_newc _ _ _ rfl
  have hUS : Up w wS := by rw [← hwS]; exact Up.alloc _ _
  have hBFS := hBF.up hUS
  have hBRS := hBR.up hUS
  have hszS : wS.heap.size = w.heap.size + 1 := by rw [← hwS]; simp
  have hgF := hBF.lt
  have hgR := hBR.lt
  clear hF hR hold hRng16 hL' hlL htF htR lF lR hBF hBR
  obtain ⟨c2, rfl⟩ : ∃ c2, cR = c2 + 1 := ⟨cR - 1, by omega⟩
  unfold wideV at *
  rcases c2 with _ | c2
  · obtain rfl : old = [] := List.length_eq_zero_iff.1 (by omega)
    obtain rfl : L' = [] := List.length_eq_zero_iff.1 HlL.out
    go_enter Tryz.func80, Tryz.ntmps80
    go_wp2_with (first
      | ((with_reducible apply appW (l := []) (m := [])); exact rfl; exact rfl; exact OwnW.nil _ wS.heap.size; exact HRng0.out rfl _ _ _; exact Nat.le_refl _; (focus (simp; done)); (focus (simp; done)); rintro v1 w1 hO1 - hb1; rw [List.nil_append] at hO1; obtain ⟨pL, cL, rfl⟩ := hO1.slice))
    go_loopg [20] 1 (fun g ti wr => ti = .int .i64 0 ∧ OwnW wr wS.heap.size (.slice pL 0 cL) [] ∧ Up wS wr)
    case atStart => exact ⟨rfl, hO1, hb1⟩
    case round =>
      clear hO1 hb1
      obtain ⟨rfl, hO1, hb1⟩ := hrel
      go_wp2_with fail
      go_ret
      exact ⟨_, rfl, hUS.trans hb1, _, hUS.size, hO1⟩
  · go_enter Tryz.func80, Tryz.ntmps80
    go_wp2_with (first
      | ((with_reducible apply appW (l := []) (m := old)); exact rfl; exact rfl; exact OwnW.nil _ wS.heap.size; (first | exact HRng16.out _ hBRS | exact HRng0.out (by omega) _ _ _); exact Nat.le_refl _; (focus (simp; done)); (focus omega); rintro v1 w1 hO1 - hb1; rw [List.nil_append] at hO1; obtain ⟨pL, cL, rfl⟩ := hO1.slice))
    have hU1 : Up wS w1 := hb1
    go_loopg [20] old.length (fun g ti wr => ∃ i : Nat, i ≤ old.length ∧ old.length - i ≤ g ∧ ti = .int .i64 (i : Nat) ∧ OwnW wr wS.heap.size (.slice pL old.length cL) (mixed L' old i) ∧ Up wS wr)
    case atStart => exact ⟨0, Nat.zero_le _, by omega, rfl, by rw [mixed_zero]; exact hO1, hU1⟩
    case round =>
      clear hO1 hU1 hb1
      obtain ⟨i, hi, hig, rfl, hO, hu⟩ := hrel
      by_cases hlt : i < old.length
      · have hml := mixed_len HlL.out i
        obtain ⟨gL, cL', CL, hv, hbL, hBL, -, -, -, htL⟩ := hO.open (by omega)
        injection hv with x1 x2 x3
        subst x1 x3
        have hmi : zth (mixed L' old i) i = zth R (i + 1) := by rw [mixed_at HlL.out hlt, HRO.out]
        have hRL : ∀ w', Blk w' gL 33 CL → w'.rangeAt gL (i * 16) (wc (zth R (i + 1))) := fun w' hB => hmi ▸ wv_range hB htL (by omega)
        have HRL := hid hRL
        have HRF0 := hid (fun w' (hB : Blk w' gF 33 CF) => wv_range hB HtF.out (i := 0) (by rw [HlF.out]; omega))
        have HRFi := hid (fun w' (hB : Blk w' gF 33 CF) => wv_range hB HtF.out (i := i + 1) (by rw [HlF.out]; omega))
        have HRR0 := hid (fun w' (hB : Blk w' gR 33 CR) => wv_range hB HtR.out (i := 0) (by rw [HlR.out]; omega))
        have hat := HAt.out i hlt
        have b1 : (zth F 0 * zth R (i + 1)).natAbs < bp 10 := mul_bp (bF 0) (bR (i + 1))
        have b2 : (zth R 0 * zth F (i + 1)).natAbs < bp 10 := mul_bp (bR 0) (bF (i + 1))
        have HM1 := hid (fun w => mul_z (few_inR (by omega) (bF 0)) (few_inR (by omega) (bR (i + 1))) w)
        have HM2 := hid (fun w => mul_z (few_inR (by omega) (bR 0)) (few_inR (by omega) (bF (i + 1))) w)
        rw [opt_yes (few_inR (by omega) b1)] at HM1
        rw [opt_yes (few_inR (by omega) b2)] at HM2
        have b3 : (zth F 0 * zth R (i + 1) - zth R 0 * zth F (i + 1)).natAbs < bp 11 := by
          have e : bp 11 = bp 10 * 18446744073709551616 := bp_succ 10
          have := Int.natAbs_sub_le (zth F 0 * zth R (i + 1)) (zth R 0 * zth F (i + 1))
          omega
        have HS := hid (fun w => sub_z (few_inR (by omega) b1) (few_inR (by omega) b2) w)
        rw [opt_yes (few_inR (by omega) b3)] at HS
        have HD := hid (fun w => div_any (few_inR (by omega) b3) hq w)
        have hdv : divZV (zth F 0 * zth R (i + 1) - zth R 0 * zth F (i + 1)) q = .tuple #[wideV (enc (zth L' i)), wideV (enc ((zth F 0 * zth R (i + 1) - zth R 0 * zth F (i + 1)).tmod q)), .bool true] := by
          unfold divZV
          rw [if_neg (by rintro (h | h); exact q0 h; exact h (few_inR (by omega) (tdiv_bp b3))), ← hat]
        rw [hdv] at HD
        have HSet := hid (mixed_set HlL.out hlt)
        clear b1 b2 b3 hdv hat hRL hmi htL hml x2
        generalize (zth F 0 * zth R (i + 1) - zth R 0 * zth F (i + 1)).tmod q = rest at *
        generalize zth F 0 * zth R (i + 1) - zth R 0 * zth F (i + 1) = dif at *
        go_wp2_with fail
        have hBFr := hBFS.up hu
        have hBRr := hBRS.up hu
        have hBxr := hBox.up hu
        have hgL : wS.heap.size ≤ gL := by omega
        unfold wideV at *
        trace_state
        refine wp_region_upS (S := (fun wq => Up wr wq ∧ Below w.heap.size w wq)) (req := (fun j => j != 12)) (by kernel_rfl) (fun _ _ h hu => ⟨(h.1).trans hu, below_up (h.2) hu⟩) ⟨(by first | exact Up.refl _ | assumption), gUp⟩ (fun wS hSS => ?_)
        have ⟨hS1, hSB⟩ := hSS
        refine wpAnyU_pure (i := 0) (d := (some 24)) (v := ?_) rfl rfl (by kernel_rfl) (fun _ _ _ h => h) (fun _ _ h hu => ⟨(h.1).trans hu, below_up (h.2) hu⟩) (Or.inl ⟨by rfl, fun w' _ => yu_value ?_⟩) ?_
        rotate_left
        · (go_simp; (try exact rfl))
        try simp only [Act.put, pu1, pu2, pu3]
        refine wpAnyU_pure (i := 1) (d := (some 25)) (v := ?_) rfl rfl (by kernel_rfl) (fun _ _ _ h => h) (fun _ _ h hu => ⟨(h.1).trans hu, below_up (h.2) hu⟩) (Or.inl ⟨by rfl, fun w' _ => yu_value ?_⟩) ?_
        rotate_left
        · (go_simp; (try exact rfl))
        try simp only [Act.put, pu1, pu2, pu3]
        refine wpAnyU_take (i := 2) (d := (some 26)) (v := _) rfl rfl (by kernel_rfl) (fun _ _ _ h => h) (fun _ _ h hu => ⟨(h.1).trans hu, below_up (h.2) hu⟩) hSS (Or.inl ⟨by rfl, fun w' hSw => yu_value (run_ldW rfl rfl (HRF0.out _ (hBFr.up hSw.1)))⟩) ?_
        try simp only [Act.put, pu1, pu2, pu3]
        refine wpAnyU_pure (i := 3) (d := (some 27)) (v := ?_) rfl rfl (by kernel_rfl) (fun _ _ _ h => h) (fun _ _ h hu => ⟨(h.1).trans hu, below_up (h.2) hu⟩) (Or.inl ⟨by rfl, fun w' _ => yu_value ?_⟩) ?_
        rotate_left
        · (go_simp; (try exact rfl))
        try simp only [Act.put, pu1, pu2, pu3]
        refine wpAnyU_pure (i := 4) (d := (some 28)) (v := ?_) rfl rfl (by kernel_rfl) (fun _ _ _ h => h) (fun _ _ h hu => ⟨(h.1).trans hu, below_up (h.2) hu⟩) (Or.inl ⟨by rfl, fun w' _ => yu_value ?_⟩) ?_
        rotate_left
        · (go_simp; (try exact rfl))
        try simp only [Act.put, pu1, pu2, pu3]
        refine wpAnyU_pure (i := 5) (d := (some 29)) (v := ?_) rfl rfl (by kernel_rfl) (fun _ _ _ h => h) (fun _ _ h hu => ⟨(h.1).trans hu, below_up (h.2) hu⟩) (Or.inl ⟨by rfl, fun w' _ => yu_value ?_⟩) ?_
        rotate_left
        · (go_simp; (try exact rfl))
        try simp only [Act.put, pu1, pu2, pu3]
        refine wpAnyU_take (i := 6) (d := (some 30)) (v := _) rfl rfl (by kernel_rfl) (fun _ _ _ h => h) (fun _ _ h hu => ⟨(h.1).trans hu, below_up (h.2) hu⟩) hSS (Or.inl ⟨by rfl, fun w' hSw => yu_value (run_ldW rfl rfl (HRL.out _ (hBL.up hSw.1)))⟩) ?_
        try simp only [Act.put, pu1, pu2, pu3]
        refine wpAnyU_take (i := 7) (d := (some 31)) (v := _) rfl rfl (by kernel_rfl) (fun _ _ _ h => h) (fun _ _ h hu => ⟨(h.1).trans hu, below_up (h.2) hu⟩) hSS (Or.inl ⟨by rfl, fun w' hSw => yu_call ?_ (HM1.out _)⟩) ?_
        · go_simp
        try simp only [Act.put, pu1, pu2, pu3]
        refine wpAnyU_pure (i := 8) (d := (some 23)) (v := ?_) rfl rfl (by kernel_rfl) (fun _ _ _ h => h) (fun _ _ h hu => ⟨(h.1).trans hu, below_up (h.2) hu⟩) (Or.inl ⟨by rfl, fun w' _ => yu_value ?_⟩) ?_
        rotate_left
        · (go_simp; (try exact rfl))
        try simp only [Act.put, pu1, pu2, pu3]
        refine wpAnyU_pure (i := 9) (d := (some 32)) (v := ?_) rfl rfl (by kernel_rfl) (fun _ _ _ h => h) (fun _ _ h hu => ⟨(h.1).trans hu, below_up (h.2) hu⟩) (Or.inl ⟨by rfl, fun w' _ => yu_value ?_⟩) ?_
        rotate_left
        · (go_simp; (try exact rfl))
        try simp only [Act.put, pu1, pu2, pu3]
        refine wpAnyU_pure (i := 10) (d := (some 33)) (v := ?_) rfl rfl (by kernel_rfl) (fun _ _ _ h => h) (fun _ _ h hu => ⟨(h.1).trans hu, below_up (h.2) hu⟩) (Or.inl ⟨by rfl, fun w' _ => yu_value ?_⟩) ?_
        rotate_left
        · (go_simp; (try exact rfl))
        try simp only [Act.put, pu1, pu2, pu3]
        refine wpAnyU_allocW (i := 11) (d := (some 9)) rfl rfl (by kernel_rfl) (by rfl) rfl (fun _ _ h hu => ⟨(h.1).trans hu, below_up (h.2) hu⟩) fun w2 hw2 => ?_
        try simp only [Act.put, pu1, pu2, pu3]
        refine wpAnyU_one (i := 12) rfl (by kernel_rfl) (by rfl) fun w3 hw3 => ?_
        refine wp_st_rowN infoW rfl _ _ rfl _ rfl rfl ((Row.up (row_newc _ 16 _ rfl) hw3)) ?_
        refine ⟨fun h => by simp at h, ?_⟩
        try simp only [Act.put, pu1, pu2, pu3]
        refine wpAnyU_pure (i := 13) (d := (some 10)) (v := ?_) rfl rfl (by kernel_rfl) (fun _ _ _ h => h) (fun _ _ h hu => ⟨(h.1).trans hu, below_up (h.2) hu⟩) (Or.inl ⟨by rfl, fun w' _ => yu_value ?_⟩) ?_
        rotate_left
        · (go_simp; (try exact rfl))
        try simp only [Act.put, pu1, pu2, pu3]
        refine wpAnyU_done (by kernel_rfl) (fun wF huE => ?_) _
        have hP1 := ((Row.up (row_newc 33 16 (fun _ => 0) (rfl : w2.heap.size = w2.heap.size)) hw3).setRow (limb (enc (zth F 0 * zth R (i + 1))))).up huE
        have hx1 := up_var (hS1.trans hw2) hw3 huE
        have hlt1 := Nat.le_trans hu.size (hS1.trans hw2).size
        clear hS1 hSB hSS hw2 hw3 huE
        obtain ⟨wA, hwA⟩ : ∃ x, wF = x := ⟨_, rfl⟩
        rw [hwA] at hP1 hx1 ⊢
        clear hwA
        obtain ⟨b1, hb1⟩ : ∃ x, w2.heap.size = x := ⟨_, rfl⟩
        rw [hb1] at hP1 hlt1 ⊢
        clear hb1
        have hBFA := hBFr.up hx1
        have hBRA := hBRr.up hx1
        have e1 : IntKind.i64.wrap ((i : Int) + 1) = (i : Int) + 1 := IntWalk.i64_in _ (by omega)
        have e2 : (0 : Int) ≤ (i : Int) + 1 ∧ (i : Int) + 1 < (old.length : Int) + 1 := by omega
        go_wp2_with fail
        refine wp_region_upS (S := (fun wq => Up wA wq ∧ Below w.heap.size w wq)) (req := (fun j => j != 13)) (by kernel_rfl) (fun _ _ h hu => ⟨(h.1).trans hu, below_up (h.2) hu⟩) ⟨(by first | exact Up.refl _ | assumption), gUp⟩ (fun wS hSS => ?_)
        have ⟨hS1, hSB⟩ := hSS
        refine wpAnyU_pure (i := 0) (d := (some 35)) (v := ?_) rfl rfl (by kernel_rfl) (fun _ _ _ h => h) (fun _ _ h hu => ⟨(h.1).trans hu, below_up (h.2) hu⟩) (Or.inl ⟨by rfl, fun w' _ => yu_value ?_⟩) ?_
        rotate_left
        · (go_simp; (try exact rfl))
        try simp only [Act.put, pu1, pu2, pu3]
        refine wpAnyU_pure (i := 1) (d := (some 36)) (v := ?_) rfl rfl (by kernel_rfl) (fun _ _ _ h => h) (fun _ _ h hu => ⟨(h.1).trans hu, below_up (h.2) hu⟩) (Or.inl ⟨by rfl, fun w' _ => yu_value ?_⟩) ?_
        rotate_left
        · (go_simp; (try exact rfl))
        try simp only [Act.put, pu1, pu2, pu3]
        refine wpAnyU_take (i := 2) (d := (some 37)) (v := _) rfl rfl (by kernel_rfl) (fun _ _ _ h => h) (fun _ _ h hu => ⟨(h.1).trans hu, below_up (h.2) hu⟩) hSS (Or.inl ⟨by rfl, fun w' hSw => yu_value (run_ldW rfl rfl (HRR0.out _ (hBRA.up hSw.1)))⟩) ?_
        try simp only [Act.put, pu1, pu2, pu3]
        refine wpAnyU_pure (i := 3) (d := (some 38)) (v := ?_) rfl rfl (by kernel_rfl) (fun _ _ _ h => h) (fun _ _ h hu => ⟨(h.1).trans hu, below_up (h.2) hu⟩) (Or.inl ⟨by rfl, fun w' _ => yu_value ?_⟩) ?_
        rotate_left
        · (go_simp; (try exact rfl))
        try simp only [Act.put, pu1, pu2, pu3]
        refine wpAnyU_pure (i := 4) (d := (some 39)) (v := ?_) rfl rfl (by kernel_rfl) (fun _ _ _ h => h) (fun _ _ h hu => ⟨(h.1).trans hu, below_up (h.2) hu⟩) (Or.inl ⟨by rfl, fun w' _ => yu_value ?_⟩) ?_
        rotate_left
        · (go_simp; (try exact rfl))
        try simp only [Act.put, pu1, pu2, pu3]
        refine wpAnyU_pure (i := 5) (d := (some 40)) (v := ?_) rfl rfl (by kernel_rfl) (fun _ _ _ h => h) (fun _ _ h hu => ⟨(h.1).trans hu, below_up (h.2) hu⟩) (Or.inl ⟨by rfl, fun w' _ => yu_value ?_⟩) ?_
        rotate_left
        · (go_simp; (try exact rfl))
        try simp only [Act.put, pu1, pu2, pu3]
        refine wpAnyU_pure (i := 6) (d := (some 41)) (v := ?_) rfl rfl (by kernel_rfl) (fun _ _ _ h => h) (fun _ _ h hu => ⟨(h.1).trans hu, below_up (h.2) hu⟩) (Or.inl ⟨by rfl, fun w' _ => yu_value ?_⟩) ?_
        rotate_left
        · (go_simp; (try exact rfl))
        try simp only [Act.put, pu1, pu2, pu3]
        refine wpAnyU_take (i := 7) (d := (some 42)) (v := _) rfl rfl (by kernel_rfl) (fun _ _ _ h => h) (fun _ _ h hu => ⟨(h.1).trans hu, below_up (h.2) hu⟩) hSS (Or.inl ⟨by rfl, fun w' hSw => yu_value (run_ldW rfl rfl (HRFi.out _ (hBFA.up hSw.1)))⟩) ?_
        try simp only [Act.put, pu1, pu2, pu3]
        refine wpAnyU_take (i := 8) (d := (some 43)) (v := _) rfl rfl (by kernel_rfl) (fun _ _ _ h => h) (fun _ _ h hu => ⟨(h.1).trans hu, below_up (h.2) hu⟩) hSS (Or.inl ⟨by rfl, fun w' hSw => yu_call ?_ (HM2.out _)⟩) ?_
        · go_simp
        try simp only [Act.put, pu1, pu2, pu3]
        refine wpAnyU_pure (i := 9) (d := (some 34)) (v := ?_) rfl rfl (by kernel_rfl) (fun _ _ _ h => h) (fun _ _ h hu => ⟨(h.1).trans hu, below_up (h.2) hu⟩) (Or.inl ⟨by rfl, fun w' _ => yu_value ?_⟩) ?_
        rotate_left
        · (go_simp; (try exact rfl))
        try simp only [Act.put, pu1, pu2, pu3]
        refine wpAnyU_pure (i := 10) (d := (some 44)) (v := ?_) rfl rfl (by kernel_rfl) (fun _ _ _ h => h) (fun _ _ h hu => ⟨(h.1).trans hu, below_up (h.2) hu⟩) (Or.inl ⟨by rfl, fun w' _ => yu_value ?_⟩) ?_
        rotate_left
        · (go_simp; (try exact rfl))
        try simp only [Act.put, pu1, pu2, pu3]
        refine wpAnyU_pure (i := 11) (d := (some 45)) (v := ?_) rfl rfl (by kernel_rfl) (fun _ _ _ h => h) (fun _ _ h hu => ⟨(h.1).trans hu, below_up (h.2) hu⟩) (Or.inl ⟨by rfl, fun w' _ => yu_value ?_⟩) ?_
        rotate_left
        · (go_simp; (try exact rfl))
        try simp only [Act.put, pu1, pu2, pu3]
        refine wpAnyU_allocW (i := 12) (d := (some 11)) rfl rfl (by kernel_rfl) (by rfl) rfl (fun _ _ h hu => ⟨(h.1).trans hu, below_up (h.2) hu⟩) fun w4 hw4 => ?_
        try simp only [Act.put, pu1, pu2, pu3]
        refine wpAnyU_one (i := 13) rfl (by kernel_rfl) (by rfl) fun w5 hw5 => ?_
        refine wp_st_rowN infoW rfl _ _ rfl _ rfl rfl ((Row.up (row_newc _ 16 _ rfl) hw5)) ?_
        refine ⟨fun h => by simp at h, ?_⟩
        try simp only [Act.put, pu1, pu2, pu3]
        refine wpAnyU_pure (i := 14) (d := (some 12)) (v := ?_) rfl rfl (by kernel_rfl) (fun _ _ _ h => h) (fun _ _ h hu => ⟨(h.1).trans hu, below_up (h.2) hu⟩) (Or.inl ⟨by rfl, fun w' _ => yu_value ?_⟩) ?_
        rotate_left
        · (go_simp; (try exact rfl))
        try simp only [Act.put, pu1, pu2, pu3]
        refine wpAnyU_done (by kernel_rfl) (fun wF huE => ?_) _
        have hP2 := ((Row.up (row_newc 33 16 (fun _ => 0) (rfl : w4.heap.size = w4.heap.size)) hw5).setRow (limb (enc (zth R 0 * zth F (i + 1))))).up huE
        have hx2 := up_var (hS1.trans hw4) hw5 huE
        clear hS1 hSB hSS hw4 hw5 huE
        obtain ⟨wB, hwB⟩ : ∃ x, wF = x := ⟨_, rfl⟩
        rw [hwB] at hP2 hx2 ⊢
        clear hwB
        obtain ⟨b2, hb2⟩ : ∃ x, w4.heap.size = x := ⟨_, rfl⟩
        rw [hb2] at hP2 ⊢
        clear hb2
        replace hP1 := hP1.up hx2
        have hx12 := hx1.trans hx2
        have hBxB := hBxr.up hx12
        have hBLB := hBL.up hx12
        have hOB := hO.up hx12
        have huB := hu.trans hx12
        have hltB := hBxB.lt
        clear hx1 hx2 hBFA hBRA
        generalize zth F 0 * zth R (i + 1) = p1 at *
        generalize zth R 0 * zth F (i + 1) = p2 at *
        go_wp2_with (first
          | ((with_reducible apply ld_rowP undW infoW); exact rfl; exact rfl; exact gRow)
          | (go_at_call 110; (with_reducible refine (HS.out _).mono ?_); rintro r w6 ⟨rfl, hu6⟩; have hs6 := hu6.size)
          | ((with_reducible apply st_rowP infoW); exact rfl; exact rfl; exact gRow) | ((with_reducible apply st_rowZ infoW); exact rfl; exact rfl; exact gRow)
          | (go_at_call 111; (with_reducible refine (HD.out _).mono ?_); rintro r w7 ⟨rfl, hu7⟩; have hx7 : Up wB w7 := Up.trans gUp hu7; have hBL7 := hBLB.up hx7; have hset := (hOB.up hx7).set hBL7 (i := i) (by rw [mixed_len HlL.out]; exact hlt) (zth L' i); rw [HSet.out] at hset; have hu8 := below_setRow (huB.trans hx7) hgL (splW CL (i * 16) (zth L' i)))
          | ((with_reducible apply stW_P); exact rfl; exact rfl; exact hBL7; exact hset.2))
        go_roundg (old.length - (i + 1))
        case measure => omega
        case rel => exact ⟨i + 1, hlt, Nat.le_refl _, rfl, hset.1, hu8⟩
      · obtain rfl : i = old.length := by omega
        rw [← HlL.out, mixed_all HlL.out] at hO
        go_wp2_with fail
        go_ret
        rw [HlL.out] at hO
        exact ⟨_, rfl, hUS.trans hu, _, hUS.size, hO⟩
def Rv (w : World) (v : Value) (L : List (List Int)) : Prop :=
  (L = [] ∧ ∃ p c, v = .slice p 0 c) ∨ ∃ g o cap C, v = .slice (some ⟨g, o, none⟩) L.length cap ∧ L.length ≤ cap ∧ Blk w g 38 C ∧ ∀ i, i < L.length → ∃ s, C[o + i]? = some s ∧ Wv w s (L.getD i [])
theorem Rv.slice {w : World} {v : Value} {L : List (List Int)} (h : Rv w v L) : ∃ p c, v = .slice p L.length c := by
  rcases h with ⟨rfl, p, c, rfl⟩ | ⟨g, o, cap, C, rfl, _⟩
  · exact ⟨p, c, rfl⟩
  · exact ⟨_, cap, rfl⟩
theorem Rv.open {w : World} {v : Value} {L : List (List Int)} (h : Rv w v L) (h0 : 0 < L.length) :
    ∃ g o cap C, v = .slice (some ⟨g, o, none⟩) L.length cap ∧ L.length ≤ cap ∧ Blk w g 38 C ∧ ∀ i, i < L.length → ∃ s, C[o + i]? = some s ∧ Wv w s (L.getD i []) := by
  rcases h with ⟨rfl, _⟩ | h
  · exact absurd h0 (by decide)
  · exact h
def Wb (w : World) (base : Nat) (v : Value) (l : List Int) : Prop := Wv w v l ∧ ∀ a n c, v = .slice (some a) n c → 0 < n → base ≤ a.block
theorem Wb.up {w w' : World} (hu : Up w w') {base : Nat} {v : Value} {l : List Int} (h : Wb w base v l) : Wb w' base v l := ⟨h.1.up hu, h.2⟩
theorem OwnW.wb {w : World} {base b : Nat} {v : Value} {l : List Int} (h : OwnW w b v l) (hb : base ≤ b) : Wb w base v l := by
  refine ⟨h.wv, fun a n c e h0 => ?_⟩
  obtain ⟨_, ⟨rfl, h1⟩ | ⟨g, cap, cur, rfl, h2, _⟩⟩ := h
  · simp at e
  · injection e with e1
    injection e1 with e1
    subst e1
    exact Nat.le_trans hb h2
theorem OwnW.below {w : World} {base g : Nat} {v : Value} {l : List Int} (h : OwnW w base v l) (hg : g < base) (D : Array Value) : OwnW (w.setRow g D) base v l := by
  obtain ⟨h0, h1 | ⟨g', cap, cur, hv, hb, hB, hr⟩⟩ := h
  · exact ⟨h0, .inl h1⟩
  · exact ⟨h0, .inr ⟨g', cap, cur, hv, hb, Blk.row_other hB D (by omega), hr⟩⟩
theorem Wb.below {w : World} {base g : Nat} {v : Value} {l : List Int} (h : Wb w base v l) (hg : g < base) (D : Array Value) : Wb (w.setRow g D) base v l := by
  obtain ⟨h1, h2⟩ := h
  refine ⟨?_, h2⟩
  rcases h1 with h1 | ⟨g', cap, C, hv, hc, hB, ht⟩
  · exact .inl h1
  · rcases Nat.eq_zero_or_pos l.length with h0 | h0
    · exact .inl ⟨List.length_eq_zero_iff.1 h0, _, _, by rw [hv, h0]⟩
    · have := h2 _ _ _ hv h0
      exact .inr ⟨g', cap, C, hv, hc, Blk.row_other hB D (by show g' ≠ g; have : base ≤ g' := this; omega), ht⟩
def OwnR (w : World) (base : Nat) (v : Value) (L : List (List Int)) : Prop :=
  ∃ xs : List Value, w.ownsRow base 38 1 v L.length xs ∧ ∀ i, i < L.length → ∃ s, xs[i]? = some s ∧ Wb w base s (L.getD i [])
theorem OwnR.below {w : World} {base g : Nat} {v : Value} {L : List (List Int)} (h : OwnR w base v L) (hg : g < base) (D : Array Value) : OwnR (w.setRow g D) base v L := by
  obtain ⟨xs, ⟨h0, h1⟩, h2⟩ := h
  refine ⟨xs, ⟨h0, ?_⟩, fun i hi => by obtain ⟨s, h5, h6⟩ := h2 i hi; exact ⟨s, h5, h6.below hg D⟩⟩
  rcases h1 with h1 | ⟨g', cap, cur, hv, hb, hB, hr⟩
  · exact .inl h1
  · exact .inr ⟨g', cap, cur, hv, hb, Blk.row_other hB D (by omega), hr⟩
theorem OwnR.up {w w' : World} {base : Nat} {v : Value} {L : List (List Int)} (hu : Up w w') (h : OwnR w base v L) : OwnR w' base v L := by
  obtain ⟨xs, h1, h2⟩ := h
  exact ⟨xs, World.ownsRow.up h1 hu, fun i hi => by obtain ⟨s, h5, h6⟩ := h2 i hi; exact ⟨s, h5, h6.up hu⟩⟩
theorem OwnR.nil (w : World) (base : Nat) : OwnR w base (.slice none 0 0) [] := ⟨[], World.ownsRow_nil _ _ _ _, fun _ hi => absurd hi (Nat.not_lt_zero _)⟩
def Rz (w : World) (v : Value) (L : List (List Int)) : Prop :=
  (L = [] ∧ ∃ p c, v = .slice p 0 c) ∨ ∃ g cap C, v = .slice (some ⟨g, 0, none⟩) L.length cap ∧ L.length ≤ cap ∧ Blk w g 38 C ∧ ∀ i, i < L.length → ∃ s, C[i]? = some s ∧ Wv w s (L.getD i [])
theorem Rz.slice {w : World} {v : Value} {L : List (List Int)} (h : Rz w v L) : ∃ p c, v = .slice p L.length c := by
  rcases h with ⟨rfl, p, c, rfl⟩ | ⟨g, cap, C, rfl, _⟩
  · exact ⟨p, c, rfl⟩
  · exact ⟨_, cap, rfl⟩
theorem OwnR.rz {w : World} {base : Nat} {v : Value} {L : List (List Int)} (h : OwnR w base v L) : Rz w v L := by
  obtain ⟨xs, ⟨_, ⟨rfl, h0⟩ | ⟨g, cap, cur, rfl, _, hB, hc, _, _, ht⟩⟩, h2⟩ := h
  · exact .inl ⟨List.length_eq_zero_iff.1 h0, _, _, rfl⟩
  · refine .inr ⟨g, cap, cur, rfl, hc, hB, fun i hi => ?_⟩
    obtain ⟨s, h3, h4⟩ := h2 i hi
    rw [← ht, List.getElem?_take_of_lt (by omega), Array.getElem?_toList] at h3
    exact ⟨s, h3, h4.1⟩
theorem OwnR.slice {w : World} {base : Nat} {v : Value} {L : List (List Int)} (h : OwnR w base v L) : ∃ p c, v = .slice p L.length c := h.rz.slice
theorem Rz.tail {w : World} {g n cap : Nat} {C : Array Value} {L : List (List Int)} (hl : L.length = n + 1) (hc : n + 1 ≤ cap) (hB : Blk w g 38 C) (hE : ∀ i, i < L.length → ∃ s, C[i]? = some s ∧ Wv w s (L.getD i [])) : Rv w (.slice (some ⟨g, 1, none⟩) n (cap - 1)) (L.drop 1) := by
  have hn : (L.drop 1).length = n := by rw [List.length_drop]; omega
  refine .inr ⟨g, 1, cap - 1, C, by rw [hn], by rw [hn]; omega, hB, fun i hi => ?_⟩
  rw [hn] at hi
  obtain ⟨s, h1, h2⟩ := hE (i + 1) (by omega)
  refine ⟨s, by rw [Nat.add_comm]; exact h1, ?_⟩
  have e : (L.drop 1).getD i [] = L.getD (i + 1) [] := by rw [List.getD_eq_getElem?_getD, List.getD_eq_getElem?_getD, List.getElem?_drop, Nat.add_comm]
  rw [e]
  exact h2
theorem Wv.grown {w w' : World} {row : Option Nat} {v : Value} {l : List Int} (h : Wv w v l) (hg : w.grownBy w' row) (hr : ∀ k, row = some k → ∃ C, Blk w k 38 C) : Wv w' v l := by
  rcases h with h | ⟨g, cap, C, h1, h2, h3, h4⟩
  · exact .inl h
  · refine .inr ⟨g, cap, C, h1, h2, ?_, h4⟩
    unfold Blk
    rw [hg.block g h3.lt ?_]
    · exact h3
    · intro e
      obtain ⟨D, hD⟩ := hr g e.symm
      unfold Blk at hD h3
      rw [hD] at h3
      simp at h3
theorem appR {ops : Array Oper} {rest : List Oper} {Q : Exit → Act → World → Prop} {a : Act} {w : World} {d : Option Tmp} {s u : Operand} {ty : TypeId} {pos : String} {af : Array Edge} {base g c : Nat} {v : Value} {L : List (List Int)} {x : Value} {r : List Int}
    (hs : a.eval s = v) (hu : a.eval u = .slice (some ⟨g, 0, none⟩) 1 c) (hown : OwnR w base v L) (hV : w.cell? ⟨g, 0, none⟩ = some x) (hx : Wb w base x r) (hbase : base ≤ w.heap.size) (hl : L.length < 1000000)
    (h : ∀ v' w', OwnR w' base v' (L ++ [r]) → w.grownBy w' v.ownBlock → Below base w w' → wpList Tryz.prog ops Q rest (a.put d v') w') :
    wpList Tryz.prog ops Q ({ dst := d, op := .call { callee := .builtin .append, args := #[s, u], argTypes := #[92, 92] }, type := ty, pos := pos, after := af, guard := none } :: rest) a w := by
  obtain ⟨i0, hi0, he⟩ := Option.map_eq_some_iff.1 infoRs
  simp only [Prod.mk.injEq] at he
  obtain ⟨xs, hxs, hE⟩ := hown
  have hlt := World.ownsRow.lt hxs
  have hrow : ∀ k, v.ownBlock = some k → ∃ C, Blk w k 38 C := by
    intro k hk
    obtain ⟨_, ⟨rfl, _⟩ | ⟨g', cap, cur, rfl, _, hB, _⟩⟩ := hxs
    · simp [Value.ownBlock] at hk
    · simp [Value.ownBlock] at hk; subst hk; exact ⟨cur, hB⟩
  have hxl : xs.length = L.length := by have := hxs.1; omega
  obtain ⟨px, cx, rfl⟩ := hx.1.slice
  refine wpList_append_own w rfl s u 92 rfl base 38 i0 _ 1 24 undRs hi0 he.1 he.2.1 he.2.2 rfl (by decide) v L.length xs hs hxs ⟨g, 0, none⟩ 1 c [.slice px r.length cx] hu rfl (fun j y hy => by
    rcases j with _ | j
    · simp at hy; subst hy; rw [Addr.add_mid]; exact hV
    · simp at hy) (by simp [Value.oneCell']) (by unfold maxLen; omega) (by omega) hbase ?_
  intro v' w' h1 h2 _
  refine h v' w' ⟨xs ++ [.slice px r.length cx], by rw [List.length_append]; exact h1, fun i hi => ?_⟩ h2 ⟨h2.os, h2.tape, h2.output, h2.size, fun k hk => h2.block k (by omega) fun e => ?_⟩
  · rw [List.length_append, List.length_singleton] at hi
    by_cases e : i < L.length
    · obtain ⟨s', h3, h4⟩ := hE i e
      refine ⟨s', by rw [List.getElem?_append_left (by omega)]; exact h3, ?_⟩
      rw [show (L ++ [r]).getD i [] = L.getD i [] from by rw [List.getD_eq_getElem?_getD, List.getD_eq_getElem?_getD, List.getElem?_append_left e]]
      exact ⟨h4.1.grown h2 hrow, h4.2⟩
    · obtain rfl : i = L.length := by omega
      refine ⟨_, by rw [List.getElem?_append_right (by omega), hxl, Nat.sub_self]; rfl, ?_⟩
      rw [show (L ++ [r]).getD L.length [] = r from by rw [List.getD_eq_getElem?_getD, List.getElem?_append_right (Nat.le_refl _), Nat.sub_self]; rfl]
      exact ⟨hx.1.grown h2 hrow, hx.2⟩
  · have := hlt k e.symm
    omega
theorem take_map_succ {α β : Type} (f : α → β) (L : List α) (d : α) {k : Nat} (hk : k < L.length) : (L.map f).take (k + 1) = (L.map f).take k ++ [f (L.getD k d)] := by
  rw [List.take_add_one, List.getElem?_eq_getElem (by rw [List.length_map]; exact hk), List.getElem_map, List.getD_eq_getElem?_getD, List.getElem?_eq_getElem hk]
  rfl
set_option maxHeartbeats 8000000 in
theorem fewer_any {vf vo : Value} {F : List Int} {L : List (List Int)} {q : Int} {n : Nat} {w : World} (hF : Wv w vf F) (hO : Rv w vo L) (lF : F.length = n + 1) (lL : ∀ i, i < L.length → (L.getD i []).length = n + 1) (hn : n ≤ 8) (h8 : L.length ≤ 8)
    (bF : Few F) (bL : ∀ i, Few (L.getD i [])) (bq : q.natAbs < bp 5) (q0 : q ≠ 0) :
    Calls Tryz.prog 46 #[vf, vo, wideV (enc q)] w fun r w' => ∃ z, r = .returned z ∧ Up w w' ∧ ∃ b, w.heap.size ≤ b ∧ OwnR w' b z (L.map fun R => tk F R q n) := by
  have HTK := hid (fun (R : List Int) (vr : Value) (w' : World) (hu : Up w w') (hR : Wv w' vr R) (lR : R.length = n + 1) (bR : Few R) => takenoff_any (hF.up hu) hR lF lR hn bF bR bq q0)
  have HL := hid lL
  have HB := hid bL
  obtain ⟨pF, cF, rfl⟩ := hF.slice
  rw [lF] at HTK ⊢
  obtain ⟨wS, hwS⟩ : ∃ x, w.alloc (.cells (cells 16 (limb (enc q))) 33) = x := ⟨_, rfl⟩
  have hBox : Row wS w.heap.size 33 16 (limb (enc q)) := by rw [← hwS]; exact row_newc _ _ _ rfl
  have hUS : Up w wS := by rw [← hwS]; exact Up.alloc _ _
  have hML : (L.map fun R => tk F R q n).length = L.length := List.length_map ..
  have HML := hid hML
  have HT := hid (fun k (hk : k < L.length) => take_map_succ (fun R => tk F R q n) L [] hk)
  obtain ⟨T, hT⟩ : ∃ T, (L.map fun R => tk F R q n) = T := ⟨_, rfl⟩
  rw [hT] at HML HT ⊢
  clear hT hML lL bL
  rcases Nat.eq_zero_or_pos L.length with hz | hz
  · obtain rfl : L = [] := List.length_eq_zero_iff.1 hz
    obtain rfl : T = [] := List.length_eq_zero_iff.1 HML.out
    obtain ⟨pO, cO, rfl⟩ := hO.slice
    clear hF hO
    unfold wideV at *
    go_enter Tryz.func46, Tryz.ntmps46
    go_wp2_with fail
    go_loopg [7, 12] 1 (fun g tr ti wr => tr = .slice none 0 0 ∧ ti = .int .i64 0 ∧ Up wS wr)
    case atStart => exact ⟨rfl, rfl, Up.refl _⟩
    case round =>
      obtain ⟨rfl, rfl, hu⟩ := hrel
      go_wp2_with fail
      go_ret
      exact ⟨_, rfl, hUS.trans hu, _, Nat.le_refl _, OwnR.nil _ _⟩
  · obtain ⟨gO, o, cO, CO, rfl, -, hBO, hE⟩ := hO.open hz
    have HE := hid hE
    have hBOS := hBO.up hUS
    clear hF hO hBO hE
    unfold wideV at *
    go_enter Tryz.func46, Tryz.ntmps46
    go_wp2_with fail
    go_loopg [7, 12] L.length (fun g tr ti wr => ∃ k : Nat, k ≤ L.length ∧ L.length - k ≤ g ∧ ti = .int .i64 (k : Nat) ∧ OwnR wr wS.heap.size tr (T.take k) ∧ Up wS wr)
    case atStart => exact ⟨0, Nat.zero_le _, by omega, rfl, by rw [List.take_zero]; exact OwnR.nil _ _, Up.refl _⟩
    case round =>
      obtain ⟨k, hk, hkg, rfl, hO, hu⟩ := hrel
      by_cases hlt : k < L.length
      · obtain ⟨s, h1, h2⟩ := HE.out k hlt
        obtain ⟨ps, cs, rfl⟩ := h2.slice
        have hcx := (hBOS.up hu).cell _ h1
        have hBx := hBox.up hu
        have HTKk := hid (fun w' (hu' : Up w w') => HTK.out (L.getD k []) _ w' hu' (h2.up hu') (HL.out k hlt) (HB.out k))
        have hT9 := HT.out k hlt
        have HT9 := hid hT9
        have HTk : Hid ((T.take k).length < 1000000) := hid (by rw [List.length_take, HML.out]; omega)
        clear h1 h2 hT9
        generalize L.getD k [] = R at *
        generalize tk F R q n = TK at *
        go_wp2_with (first
          | ((with_reducible apply ld_rowP undW infoW); exact rfl; exact rfl; exact gRow)
          | (go_at_call 80; (with_reducible refine (HTKk.out _ (hUS.trans hu)).mono ?_); rintro r w3 ⟨z3, rfl, hu3, b3, hb3, hO3⟩; obtain ⟨p3, c3, rfl⟩ := hO3.slice; have hsz3 := hu3.size; have hsz := hu.size)
          | ((with_reducible apply appR); exact rfl; exact rfl; exact OwnR.up (hu3.trans (Up.alloc _ _)) hO; exact (Blk.new _ _ rfl).cell 0 rfl; exact (hO3.up (Up.alloc _ _)).wb (by omega); (focus (simp; omega)); exact HTk.out; rintro v6 w6 hO6 - hb6))
        go_roundg (L.length - (k + 1))
        case measure => omega
        case rel => exact ⟨k + 1, hlt, Nat.le_refl _, rfl, by rw [HT9.out]; exact hO6, Below.trans ((hu.trans hu3).trans (Up.alloc _ _)) hb6⟩
      · obtain rfl : k = L.length := by omega
        rw [← HML.out, List.take_length] at hO
        go_wp2_with fail
        go_ret
        exact ⟨_, rfl, hUS.trans hu, _, hUS.size, hO⟩
def rowE (n : Nat) (l : List Int) (i : Nat) : List Int := mk n fun j => ent n l i j
def sqE (n : Nat) (l : List Int) : List (List Int) := (List.range n).map fun i => rowE n l i
theorem mk_take_succ {n : Nat} (f : Nat → Int) {j : Nat} (hj : j < n) : (mk n f).take (j + 1) = (mk n f).take j ++ [f j] := by
  unfold mk
  rw [take_map_succ f (List.range n) 0 (by simpa using hj), List.getD_eq_getElem?_getD, List.getElem?_range hj]
  rfl
theorem sqE_take_succ (n : Nat) (l : List Int) {i : Nat} (hi : i < n) : (sqE n l).take (i + 1) = (sqE n l).take i ++ [rowE n l i] := by
  unfold sqE
  rw [take_map_succ _ (List.range n) 0 (by simpa using hi), List.getD_eq_getElem?_getD, List.getElem?_range hi]
  rfl
theorem at_right {v : Value} {n : Nat} {l : List Int} {i j : Nat} {w : World} (hm : Sm w v n l) (hR : rt n l = true) (hi : i < n) (hj : j < n) :
    Calls Tryz.prog 78 #[v, .int .i64 (i : Nat), .int .i64 (j : Nat)] w fun r w' => r = .returned (.tuple #[.int .i64 (ent n l i j), .nilIface]) ∧ Up w w' := by
  have hr : rng (n : Int) i j = true := decide_eq_true (by omega)
  have h0 : atC (n : Int) l i j = 0 := by unfold atC; rw [hR, if_pos rfl, hr, if_pos rfl]
  have h1 : atV (n : Int) l i j = ent n l i j := by unfold atV; rw [if_pos h0]
  refine (at_any (i : Int) (j : Int) hm).mono ?_
  rintro r w' ⟨u, rfl, hu, he⟩
  rw [h0] at he
  rw [h1]
  rcases he with ⟨-, h⟩ | ⟨h, -⟩
  · subst h; exact ⟨rfl, hu⟩
  · exact absurd rfl h
theorem ent_i64 {n : Nat} {l : List Int} (hR : rt n l = true) {i j : Nat} (hi : i < n) (hj : j < n) : I64 (ent n l i j) := by
  obtain ⟨k, _, hk, he⟩ := idx_nat hR (show rng (n : Int) i j = true from decide_eq_true (by omega))
  rw [he]
  exact fit_i64 ((rt_spec hR).2.2.2 k hk)
set_option maxHeartbeats 8000000 in
theorem square_any {v : Value} {n : Nat} {l : List Int} {w : World} (hm : Sm w v n l) (hR : rt n l = true) :
    Calls Tryz.prog 44 #[v] w fun r w' => ∃ z, r = .returned z ∧ Up w w' ∧ ∃ b, w.heap.size ≤ b ∧ OwnR w' b z (sqE n l) := by
  have n8 : n ≤ 8 := by have := (rt_spec hR).2.1; omega
  have HAT := hid (fun (i j : Nat) (hi : i < n) (hj : j < n) w' (hu : Up w w') => at_right (hm.up hu) hR hi hj)
  have HO := hid (fun (i j : Nat) (hi : i < n) (hj : j < n) w => of_any (ent n l i j) (ent_i64 hR hi hj).1 (ent_i64 hR hi hj).2 w)
  obtain ⟨s, rfl, ⟨p, cap, rfl, hcap, hc⟩, hN, hl, hlen⟩ := hm
  obtain ⟨wS, hwS⟩ : ∃ x, w.alloc (.cells #[.int .i64 (n : Int), .slice p l.length cap] 24) = x := ⟨_, rfl⟩
  have hB : Blk wS w.heap.size 24 #[.int .i64 (n : Int), .slice p l.length cap] := by rw [← hwS]; exact Blk.new _ _ rfl
  have hU : Up w wS := by rw [← hwS]; exact Up.alloc _ _
  have hc0 := hB.cell 0 rfl
  have hsl : (sqE n l).length = n := by unfold sqE; simp
  have HSL := hid hsl
  have HTR := hid (fun i (hi : i < n) => sqE_take_succ n l hi)
  have HTE := hid (fun i j (hj : j < n) => mk_take_succ (n := n) (fun j => ent n l i j) hj)
  clear hc hl hlen hR hsl hN
  unfold wideV at *
  go_enter Tryz.func44, Tryz.ntmps44
  go_wp2_with fail
  clear hwS hc0
  go_loopg [3, 11] n (fun g tr ti wr => ∃ i : Nat, i ≤ n ∧ n - i ≤ g ∧ ti = .int .i64 (i : Nat) ∧ OwnR wr wS.heap.size tr ((sqE n l).take i) ∧ Up wS wr)
  case atStart => exact ⟨0, Nat.zero_le _, by omega, rfl, by rw [List.take_zero]; exact OwnR.nil _ _, Up.refl _⟩
  case round =>
    obtain ⟨i, hi, hig, rfl, hO, hu⟩ := hrel
    have hc0 := (hB.up hu).cell 0 rfl
    by_cases hlt : i < n
    · have e1 : IntKind.i64.wrap ((i : Int) + 1) = (i : Int) + 1 := IntWalk.i64_in _ (by omega)
      go_wp2_with fail
      obtain ⟨wO, hwO⟩ : ∃ y, wr = y := ⟨_, rfl⟩
      rw [hwO] at hO hu hc0 ⊢
      clear hwO
      go_loopg [5, 16] n (fun g te tj wr => ∃ j : Nat, j ≤ n ∧ n - j ≤ g ∧ tj = .int .i64 (j : Nat) ∧ OwnW wr wO.heap.size te ((rowE n l i).take j) ∧ Up wO wr)
      case atStart => exact ⟨0, Nat.zero_le _, by omega, rfl, by rw [List.take_zero]; exact OwnW.nil _ _, Up.refl _⟩
      case round =>
        clear hc0
        obtain ⟨j, hj, hjg, rfl, hE, huj⟩ := hrel
        have hBj := hB.up (hu.trans huj)
        have hc0 := hBj.cell 0 rfl
        by_cases hjlt : j < n
        · have e2 : IntKind.i64.wrap ((j : Int) + 1) = (j : Int) + 1 := IntWalk.i64_in _ (by omega)
          have HA := hid (fun w' (hu' : Up wr w') => HAT.out i j hlt hjlt w' (hU.trans ((hu.trans huj).trans hu')))
          have HOf := hid (HO.out i j hlt hjlt)
          have HT9 := hid (HTE.out i j hjlt)
          have HTk : Hid (((rowE n l i).take j).length < 1000000) := hid (by rw [List.length_take]; omega)
          have hszj := huj.size
          generalize ent n l i j = z at *
          go_wp2_with (first
            | ((with_reducible apply ldM_P); exact rfl; exact rfl; exact hBj; exact rfl)
            | (go_at_call 78; (with_reducible refine (HA.out _ (Up.refl _)).mono ?_); rintro r w2 ⟨rfl, hu2⟩; have hs2 := hu2.size)
            | (go_at_call 43; (with_reducible refine (HOf.out _).mono ?_); rintro r w3 ⟨rfl, hu3⟩; have hs3 := hu3.size)
            | ((with_reducible apply bsW_P); exact rfl)
            | ((with_reducible apply appW (l := (rowE n l i).take j) (m := [z])); exact rfl; exact rfl; exact OwnW.up ((hu2.trans hu3).trans (Up.alloc _ _)) hE; exact one_range rfl; (focus (simp; omega)); exact HTk.out; (focus (simp; done)); rintro v6 w6 hO6 - hb6))
          go_roundg (n - (j + 1))
          case measure => omega
          case rel => exact ⟨j + 1, hjlt, Nat.le_refl _, rfl, by rw [show rowE n l i = mk n fun j => ent n l i j from rfl, HT9.out]; exact hO6, Below.trans (huj.trans ((hu2.trans hu3).trans (Up.alloc _ _))) hb6⟩
        · obtain rfl : j = n := by omega
          rw [List.take_of_length_le (by show (mk _ _).length ≤ _; rw [mk_len]; exact Nat.le_refl _)] at hE
          obtain ⟨pe, ce, rfl⟩ := hE.slice
          have HT9 := hid (HTR.out i hlt)
          have HTk : Hid (((sqE j l).take i).length < 1000000) := hid (by rw [List.length_take]; omega)
          have hszj := huj.size
          have hszu := hu.size
          go_wp2_with (first
            | ((with_reducible apply appR (r := rowE j l i)); exact rfl; exact rfl; exact OwnR.up (huj.trans (Up.alloc _ _)) hO; exact (Blk.new _ _ rfl).cell 0 rfl; exact (hE.up (Up.alloc _ _)).wb (by omega); (focus (simp; omega)); exact HTk.out; rintro v6 w6 hO6 - hb6))
          go_roundg (j - (i + 1))
          case measure => omega
          case rel => exact ⟨i + 1, hlt, Nat.le_refl _, rfl, by rw [HT9.out]; exact hO6, Below.trans ((hu.trans huj).trans (Up.alloc _ _)) hb6⟩
    · obtain rfl : i = n := by omega
      rw [List.take_of_length_le (by rw [HSL.out]; exact Nat.le_refl _)] at hO
      go_wp2_with fail
      go_ret
      exact ⟨_, rfl, hU.trans hu, _, hU.size, hO⟩
end Go.Proofs.YtnpaodlhhcnbgaaGreatDoor
namespace Go.Proofs.YtnpaodlhhcnbgaaGreatDoor
def sk (i r : Nat) : Nat := if r < i then r else r + 1
def sg (i : Nat) : Int := if i % 2 = 0 then 1 else -1
def sumN : Nat → (Nat → Int) → Int
  | 0, _ => 0
  | n + 1, f => sumN n f + f n
def det : Nat → (Nat → Nat → Int) → Int
  | 0, _ => 1
  | n + 1, A => sumN (n + 1) fun i => sg i * A i 0 * det n fun r c => A (sk i r) (c + 1)
theorem sumN_congr {n : Nat} {f g : Nat → Int} (h : ∀ i, i < n → f i = g i) : sumN n f = sumN n g := by
  induction n with
  | zero => rfl
  | succ n ih => unfold sumN; rw [ih fun i hi => h i (by omega), h n (by omega)]
theorem sumN_lin {n : Nat} {f g k : Nat → Int} {x y : Int} (h : ∀ i, i < n → f i = x * g i + y * k i) : sumN n f = x * sumN n g + y * sumN n k := by
  induction n with
  | zero => simp [sumN]
  | succ n ih => unfold sumN; rw [ih fun i hi => h i (by omega), h n (by omega)]; grind
theorem sumN_zero {n : Nat} {f : Nat → Int} (h : ∀ i, i < n → f i = 0) : sumN n f = 0 := by
  induction n with
  | zero => rfl
  | succ n ih => unfold sumN; rw [ih fun i hi => h i (by omega), h n (by omega)]; rfl
theorem sumN_one {n p : Nat} {f : Nat → Int} (hp : p < n) (h : ∀ i, i < n → i ≠ p → f i = 0) : sumN n f = f p := by
  induction n with
  | zero => omega
  | succ n ih =>
    unfold sumN
    by_cases e : p = n
    · subst e; rw [sumN_zero fun i hi => h i (by omega) (by omega)]; omega
    · rw [ih (by omega) fun i hi => h i (by omega), h n (by omega) (by omega)]; omega
theorem sumN_two {n p : Nat} {f : Nat → Int} (hp : p + 1 < n) (h : ∀ i, i < n → i ≠ p → i ≠ p + 1 → f i = 0) (h2 : f p + f (p + 1) = 0) : sumN n f = 0 := by
  induction n with
  | zero => omega
  | succ n ih =>
    unfold sumN
    by_cases e : p + 1 = n
    · rw [← e, sumN_one (f := f) (p := p) (n := p + 1) (by omega) fun i hi h1 => h i (by omega) h1 (by omega)]; exact h2
    · rw [ih (by omega) fun i hi => h i (by omega), h n (by omega) (by omega) (by omega)]; rfl
theorem sk_lt {n i r : Nat} (hr : r < n) : sk i r < n + 1 := by unfold sk; split <;> omega
theorem sk_ne (i r : Nat) : sk i r ≠ i := by unfold sk; split <;> omega
theorem det_congr {n : Nat} {A B : Nat → Nat → Int} (h : ∀ i j, i < n → j < n → A i j = B i j) : det n A = det n B := by
  induction n generalizing A B with
  | zero => rfl
  | succ n ih =>
    unfold det
    exact sumN_congr fun i hi => by rw [h i 0 hi (by omega), ih fun r c hr hc => h _ _ (sk_lt hr) (by omega)]
def updR (A : Nat → Nat → Int) (p : Nat) (u : Nat → Int) : Nat → Nat → Int := fun r c => if r = p then u c else A r c
theorem updR_minor {A : Nat → Nat → Int} {p i : Nat} {u : Nat → Int} (h : i ≠ p) :
    (fun r c => updR A p u (sk i r) (c + 1)) = updR (fun r c => A (sk i r) (c + 1)) (if p < i then p else p - 1) fun c => u (c + 1) := by
  funext r c
  unfold updR
  have : sk i r = p ↔ r = (if p < i then p else p - 1) := by unfold sk; split <;> split <;> omega
  by_cases e : sk i r = p
  · rw [if_pos e, if_pos (this.1 e)]
  · rw [if_neg e, if_neg (fun x => e (this.2 x))]
theorem updR_own {A : Nat → Nat → Int} {p : Nat} {u : Nat → Int} :
    (fun r c => updR A p u (sk p r) (c + 1)) = fun r c => A (sk p r) (c + 1) := by
  funext r c
  unfold updR
  rw [if_neg (sk_ne p r)]
theorem det_lin {n p : Nat} (hp : p < n) (A : Nat → Nat → Int) (x y : Int) (u v : Nat → Int) :
    det n (updR A p fun c => x * u c + y * v c) = x * det n (updR A p u) + y * det n (updR A p v) := by
  induction n generalizing A p u v with
  | zero => omega
  | succ n ih =>
    unfold det
    refine sumN_lin fun i hi => ?_
    by_cases e : i = p
    · subst e
      rw [updR_own, updR_own, updR_own]
      unfold updR
      simp only [if_true]
      grind
    · rw [updR_minor e, updR_minor e, updR_minor e, ih (p := if p < i then p else p - 1) (by split <;> omega)]
      unfold updR
      rw [if_neg e, if_neg e, if_neg e]
      grind
theorem det_next {n p : Nat} (hp : p + 1 < n) {A : Nat → Nat → Int} (h : ∀ c, A p c = A (p + 1) c) : det n A = 0 := by
  induction n generalizing A p with
  | zero => omega
  | succ n ih =>
    unfold det
    refine sumN_two hp (fun i hi h1 h2 => ?_) ?_
    · by_cases e : i < p
      · rw [ih (p := p - 1) (by omega) (fun c => by
          rw [show sk i (p - 1) = p from by unfold sk; split <;> omega, show sk i (p - 1 + 1) = p + 1 from by unfold sk; split <;> omega]; exact h _)]
        grind
      · rw [ih (p := p) (by omega) (fun c => by
          rw [show sk i p = p from by unfold sk; split <;> omega, show sk i (p + 1) = p + 1 from by unfold sk; split <;> omega]; exact h _)]
        grind
    · have e : (fun r c => A (sk p r) (c + 1)) = fun r c => A (sk (p + 1) r) (c + 1) := by
        funext r c
        by_cases e : r = p
        · rw [show sk p r = p + 1 from by unfold sk; split <;> omega, show sk (p + 1) r = p from by unfold sk; split <;> omega, h]
        · rw [show sk p r = sk (p + 1) r from by unfold sk; split <;> split <;> omega]
      rw [e, h 0]
      have e2 : sg (p + 1) = - sg p := by unfold sg; split <;> split <;> omega
      rw [e2]
      grind
theorem updR_comm {A : Nat → Nat → Int} {p q : Nat} (h : p ≠ q) (u v : Nat → Int) : updR (updR A p u) q v = updR (updR A q v) p u := by
  funext r c
  unfold updR
  split <;> split <;> first | rfl | omega
theorem updR_self (A : Nat → Nat → Int) (p : Nat) : updR A p (A p) = A := by
  funext r c
  unfold updR
  split <;> simp_all
theorem updR_at (A : Nat → Nat → Int) (p : Nat) (u : Nat → Int) : updR A p u p = u := by
  funext c
  unfold updR
  simp
theorem updR_off {A : Nat → Nat → Int} {p r : Nat} (u : Nat → Int) (h : r ≠ p) : updR A p u r = A r := by
  funext c
  unfold updR
  simp [h]
theorem swap_of {n p q : Nat} (hp : p < n) (hq : q < n) (hpq : p ≠ q)
    (h0 : ∀ A : Nat → Nat → Int, (∀ c, A p c = A q c) → det n A = 0) (A : Nat → Nat → Int) :
    det n (updR (updR A p (A q)) q (A p)) = - det n A := by
  have key : ∀ u v : Nat → Int, det n (updR (updR A p u) q v) + det n (updR (updR A p v) q u) = 0 := fun u v => by
    have z1 := h0 (updR (updR A p fun c => 1 * u c + 1 * v c) q fun c => 1 * u c + 1 * v c) (fun c => by rw [updR_off _ hpq, updR_at, updR_at])
    have z2 := h0 (updR (updR A p u) q u) (fun c => by rw [updR_off _ hpq, updR_at, updR_at])
    have z3 := h0 (updR (updR A p v) q v) (fun c => by rw [updR_off _ hpq, updR_at, updR_at])
    rw [det_lin hq, updR_comm hpq, det_lin hp, updR_comm hpq, det_lin hp, updR_comm (Ne.symm hpq), updR_comm (Ne.symm hpq), updR_comm (Ne.symm hpq), updR_comm (Ne.symm hpq)] at z1
    omega
  have := key (A p) (A q)
  rw [updR_self] at this
  rw [show updR A q (A q) = A from updR_self A q] at this
  omega
theorem det_same {n p q : Nat} (hpq : p < q) (hq : q < n) {A : Nat → Nat → Int} (h : ∀ c, A p c = A q c) : det n A = 0 := by
  obtain ⟨d, rfl⟩ : ∃ d, q = p + 1 + d := ⟨q - p - 1, by omega⟩
  induction d generalizing A with
  | zero => exact det_next hq h
  | succ d ih =>
    have hs := swap_of (n := n) (p := p + 1 + d) (q := p + 1 + d + 1) (by omega) (by omega) (by omega) (fun A hA => det_next (by omega) hA) A
    have hz := ih (A := updR (updR A (p + 1 + d) (A (p + 1 + d + 1))) (p + 1 + d + 1) (A (p + 1 + d))) (by omega) (by omega) (fun c => by
      rw [updR_off _ (by omega), updR_off _ (by omega), updR_off _ (by omega), updR_at]; exact h c)
    omega
theorem det_twice {n p q : Nat} (hpq : p ≠ q) (hp : p < n) (hq : q < n) {A : Nat → Nat → Int} (h : ∀ c, A p c = A q c) : det n A = 0 := by
  by_cases e : p < q
  · exact det_same e hq h
  · exact det_same (show q < p by omega) hp fun c => (h c).symm
theorem det_swap {n p q : Nat} (hp : p < n) (hq : q < n) (hpq : p ≠ q) (A : Nat → Nat → Int) : det n (updR (updR A p (A q)) q (A p)) = - det n A :=
  swap_of hp hq hpq (fun _ h => det_twice hpq hp hq h) A
theorem det_row {n p q : Nat} (hp : p < n) (hq : q < n) (hpq : p ≠ q) (A : Nat → Nat → Int) (x y : Int) :
    det n (updR A p fun c => x * A p c + y * A q c) = x * det n A := by
  rw [det_lin hp, updR_self, det_twice hpq hp hq (A := updR A p (A q)) (fun c => by rw [updR_at, updR_off _ (Ne.symm hpq)])]
  omega
def gone (k : Nat) (A : Nat → Nat → Int) : Nat → Nat → Int := fun r c => if 0 < r ∧ r ≤ k then A 0 0 * A r c - A r 0 * A 0 c else A r c
theorem det_gone {n : Nat} (A : Nat → Nat → Int) : ∀ k, k ≤ n → det (n + 1) (gone k A) = A 0 0 ^ k * det (n + 1) A := by
  intro k
  induction k with
  | zero => intro _; rw [show gone 0 A = A from by funext r c; unfold gone; rw [if_neg (by omega)]]; simp
  | succ k ih =>
    intro hk
    have e : gone (k + 1) A = updR (gone k A) (k + 1) fun c => A 0 0 * gone k A (k + 1) c + (- A (k + 1) 0) * gone k A 0 c := by
      funext r c
      unfold updR
      by_cases e : r = k + 1
      · subst e
        rw [if_pos rfl]
        have z1 : gone (k + 1) A (k + 1) c = A 0 0 * A (k + 1) c - A (k + 1) 0 * A 0 c := by unfold gone; rw [if_pos (by omega)]
        have z2 : gone k A (k + 1) c = A (k + 1) c := by unfold gone; rw [if_neg (by omega)]
        have z3 : gone k A 0 c = A 0 c := by unfold gone; rw [if_neg (by omega)]
        show _ = A 0 0 * gone k A (k + 1) c + (- A (k + 1) 0) * gone k A 0 c
        rw [z1, z2, z3]
        grind
      · rw [if_neg e]
        unfold gone
        by_cases e2 : 0 < r ∧ r ≤ k
        · rw [if_pos e2, if_pos (by omega)]
        · rw [if_neg e2, if_neg (by omega)]
    rw [e, det_row (by omega) (by omega) (by omega), ih (by omega), Int.pow_succ]
    grind
def chio (A : Nat → Nat → Int) : Nat → Nat → Int := fun i j => A 0 0 * A (i + 1) (j + 1) - A (i + 1) 0 * A 0 (j + 1)
theorem det_chio (n : Nat) (A : Nat → Nat → Int) : A 0 0 ^ n * det (n + 1) A = A 0 0 * det n (chio A) := by
  rw [← det_gone A n (Nat.le_refl n)]
  have h : det (n + 1) (gone n A) = sumN (n + 1) fun i => sg i * gone n A i 0 * det n fun r c => gone n A (sk i r) (c + 1) := rfl
  rw [h, sumN_one (p := 0) (by omega) (fun i hi h0 => by
    rw [show gone n A i 0 = 0 from by unfold gone; rw [if_pos (by omega)]; grind]; simp)]
  have e : det n (fun r c => gone n A (sk 0 r) (c + 1)) = det n (chio A) := det_congr fun r c hr hc => by
    rw [show sk 0 r = r + 1 from rfl]; unfold gone chio; rw [if_pos (by omega)]
  rw [e, show gone n A 0 0 = A 0 0 from by unfold gone; rw [if_neg (by omega)], show sg 0 = 1 from rfl, Int.one_mul]
theorem det_nil {n : Nat} {A : Nat → Nat → Int} (h : ∀ i, i < n + 1 → A i 0 = 0) : det (n + 1) A = 0 :=
  sumN_zero fun i hi => by rw [h i hi]; simp
theorem sumN_abs {n : Nat} {f : Nat → Int} {b : Nat} (h : ∀ i, i < n → (f i).natAbs ≤ b) : (sumN n f).natAbs ≤ n * b := by
  induction n with
  | zero => simp [sumN]
  | succ n ih =>
    have h1 := ih fun i hi => h i (by omega)
    have h2 := h n (by omega)
    have h3 := Int.natAbs_add_le (sumN n f) (f n)
    show (sumN n f + f n).natAbs ≤ _
    rw [Nat.succ_mul]
    omega
def fct : Nat → Nat
  | 0 => 1
  | n + 1 => (n + 1) * fct n
theorem det_abs {n m : Nat} {A : Nat → Nat → Int} (h : ∀ i j, i < n → j < n → (A i j).natAbs ≤ m) : (det n A).natAbs ≤ fct n * m ^ n := by
  induction n generalizing A with
  | zero => simp [det, fct]
  | succ n ih =>
    have h1 : (det (n + 1) A).natAbs ≤ (n + 1) * (m * (fct n * m ^ n)) := sumN_abs fun i hi => by
      have := ih (A := fun r c => A (sk i r) (c + 1)) fun r c hr hc => h _ _ (sk_lt hr) (by omega)
      rw [Int.natAbs_mul, Int.natAbs_mul, show (sg i).natAbs = 1 from by unfold sg; split <;> rfl, Nat.one_mul]
      exact Nat.mul_le_mul (h i 0 hi (by omega)) this
    rw [show fct (n + 1) * m ^ (n + 1) = (n + 1) * (m * (fct n * m ^ n)) from by rw [show fct (n + 1) = (n + 1) * fct n from rfl, Nat.pow_succ]; grind]
    exact h1
theorem det_two (A : Nat → Nat → Int) : det 2 A = A 0 0 * A 1 1 - A 1 0 * A 0 1 := by
  simp [det, sumN, sg, sk]; grind
theorem det_one (A : Nat → Nat → Int) : det 1 A = A 0 0 := by
  simp [det, sumN, sg]
theorem det_scale (n : Nat) (x : Int) (A : Nat → Nat → Int) : det n (fun i j => x * A i j) = x ^ n * det n A := by
  induction n generalizing A with
  | zero => simp [det]
  | succ n ih =>
    show sumN (n + 1) (fun i => sg i * (x * A i 0) * det n fun r c => x * A (sk i r) (c + 1)) = _ * sumN (n + 1) _
    rw [show ∀ f : Nat → Int, x ^ (n + 1) * sumN (n + 1) f = x ^ (n + 1) * sumN (n + 1) f + 0 * sumN (n + 1) f from fun f => by omega]
    refine sumN_lin fun i hi => ?_
    rw [ih (fun r c => A (sk i r) (c + 1)), Int.pow_succ]
    grind
def nxt (q : Int) (M : Nat → Nat → Int) : Nat → Nat → Int := fun i j => (chio M i j).tdiv q
def Good (q : Int) (b : Nat → Nat) (M : Nat → Nat → Int) : Prop :=
  ∀ (r : Nat) (R C : Nat → Nat), ∃ D : Int, det (r + 1) (fun i j => M (R i) (C j)) = q ^ r * D ∧ D.natAbs ≤ b r
def fst1 (R : Nat → Nat) : Nat → Nat
  | 0 => 0
  | i + 1 => R i + 1
theorem Good.entry {q : Int} {b : Nat → Nat} {M : Nat → Nat → Int} (h : Good q b M) (i j : Nat) : (M i j).natAbs ≤ b 0 := by
  obtain ⟨D, h1, h2⟩ := h 0 (fun _ => i) (fun _ => j)
  rw [det_one, Int.pow_zero, Int.one_mul] at h1
  rw [h1]; exact h2
theorem Good.exact {q : Int} {b : Nat → Nat} {M : Nat → Nat → Int} (h : Good q b M) (hq : q ≠ 0) (i j : Nat) : q * nxt q M i j = chio M i j := by
  obtain ⟨D, h1, _⟩ := h 1 (fst1 fun _ => i) (fst1 fun _ => j)
  rw [det_two, Int.pow_one] at h1
  have e : chio M i j = q * D := h1
  unfold nxt
  rw [e, Int.mul_tdiv_cancel_left _ hq]
theorem chio_fst (M : Nat → Nat → Int) (R C : Nat → Nat) : chio (fun i j => M (fst1 R i) (fst1 C j)) = fun i j => chio M (R i) (C j) := rfl
theorem pow_ne {q : Int} (hq : q ≠ 0) (n : Nat) : q ^ n ≠ 0 := by
  induction n with
  | zero => simp
  | succ n ih => rw [Int.pow_succ]; exact Int.mul_ne_zero ih hq
theorem mul_left_pow {q x y : Int} (hq : q ≠ 0) (n : Nat) (h : q ^ n * x = q ^ n * y) : x = y :=
  Int.eq_of_mul_eq_mul_left (pow_ne hq n) h
theorem minor_next {q : Int} {b : Nat → Nat} {M : Nat → Nat → Int} (h : Good q b M) (hq : q ≠ 0) (ha : M 0 0 ≠ 0) {r : Nat} {R C : Nat → Nat} {D : Int}
    (hD : det (r + 2) (fun i j => M (fst1 R i) (fst1 C j)) = q ^ (r + 1) * D) :
    det (r + 1) (fun i j => nxt q M (R i) (C j)) = M 0 0 ^ r * D := by
  have h1 := det_scale (r + 1) q (fun i j => nxt q M (R i) (C j))
  have h2 : (fun i j => q * nxt q M (R i) (C j)) = chio (fun i j => M (fst1 R i) (fst1 C j)) := by
    funext i j
    rw [chio_fst]
    exact h.exact hq _ _
  have h3 := det_chio (r + 1) (fun i j => M (fst1 R i) (fst1 C j))
  rw [h2] at h1
  rw [h1, hD] at h3
  have h4 : M 0 0 ^ (r + 1) * (q ^ (r + 1) * D) = M 0 0 * (q ^ (r + 1) * det (r + 1) fun i j => nxt q M (R i) (C j)) := h3
  rw [Int.pow_succ (M 0 0)] at h4
  refine mul_left_pow hq (r + 1) (Int.eq_of_mul_eq_mul_left ha ?_)
  grind
theorem Good.next {q : Int} {b : Nat → Nat} {M : Nat → Nat → Int} (h : Good q b M) (hq : q ≠ 0) (ha : M 0 0 ≠ 0) : Good (M 0 0) (fun r => b (r + 1)) (nxt q M) := fun r R C => by
  obtain ⟨D, h1, h2⟩ := h (r + 1) (fst1 R) (fst1 C)
  exact ⟨D, minor_next h hq ha h1, h2⟩
def Full (q : Int) (n : Nat) (M : Nat → Nat → Int) (D : Int) : Prop := q * det n M = q ^ n * D
theorem fst1_id : fst1 (fun i => i) = fun i => i := by funext i; cases i <;> rfl
theorem Full.next {q : Int} {b : Nat → Nat} {M : Nat → Nat → Int} {n : Nat} {D : Int} (h : Good q b M) (hq : q ≠ 0) (ha : M 0 0 ≠ 0) (hf : Full q (n + 1) M D) : Full (M 0 0) n (nxt q M) D := by
  unfold Full at hf ⊢
  cases n with
  | zero =>
    rw [det_one, Int.pow_succ, Int.pow_zero, Int.one_mul] at hf
    have := Int.eq_of_mul_eq_mul_left hq hf
    show _ * 1 = _
    rw [this]; simp
  | succ n =>
    have hf' : det (n + 2) M = q ^ (n + 1) * D := by
      refine Int.eq_of_mul_eq_mul_left hq ?_
      rw [hf, Int.pow_succ q (n + 1)]; grind
    have h2 := minor_next (R := fun i => i) (C := fun i => i) h hq ha (r := n) (D := D) (by rw [fst1_id]; exact hf')
    rw [h2, Int.pow_succ]; grind
theorem Full.zero {q D : Int} {M : Nat → Nat → Int} (h : Full q 0 M D) : D = q := by
  unfold Full at h
  simp [det] at h
  exact h.symm
theorem Full.nil {q D : Int} {n : Nat} {M : Nat → Nat → Int} (h : Full q (n + 1) M D) (hq : q ≠ 0) (hz : ∀ i, i < n + 1 → M i 0 = 0) : D = 0 := by
  unfold Full at h
  rw [det_nil hz, Int.mul_zero] at h
  rcases Int.mul_eq_zero.1 h.symm with e | e
  · exact absurd e (pow_ne hq _)
  · exact e
def add0 (k : Nat) (M : Nat → Nat → Int) : Nat → Nat → Int := updR M 0 fun c => M 0 c + M k c
theorem Good.add0 {q : Int} {b : Nat → Nat} {M : Nat → Nat → Int} (h : Good q b M) (k : Nat) : Good q (fun r => 2 * b r) (add0 k M) := fun r R C => by
  by_cases e : ∃ p, p < r + 1 ∧ R p = 0
  · obtain ⟨p, hp, hp0⟩ := e
    by_cases e2 : ∃ p', p' < r + 1 ∧ p' ≠ p ∧ R p' = 0
    · obtain ⟨p', hp', hne, hp0'⟩ := e2
      exact ⟨0, by rw [det_twice hne hp' hp (fun c => by rw [hp0, hp0'])]; simp, Nat.zero_le _⟩
    · obtain ⟨D1, h1, b1⟩ := h r R C
      obtain ⟨D2, h2, b2⟩ := h r (fun i => if i = p then k else R i) C
      refine ⟨D1 + D2, ?_, ?_⟩
      · have e3 : det (r + 1) (fun i j => Go.Proofs.YtnpaodlhhcnbgaaGreatDoor.add0 k M (R i) (C j)) = det (r + 1) (updR (fun i j => M (R i) (C j)) p fun c => 1 * M 0 (C c) + 1 * M k (C c)) := det_congr fun i j hi hj => by
          unfold Go.Proofs.YtnpaodlhhcnbgaaGreatDoor.add0 updR
          by_cases e4 : i = p
          · subst e4; rw [if_pos hp0, if_pos rfl]; show _ = 1 * M 0 (C j) + 1 * M k (C j); rw [Int.one_mul, Int.one_mul]
          · rw [if_neg (fun e5 => e2 ⟨i, hi, e4, e5⟩), if_neg e4]
        have e5 : updR (fun i j => M (R i) (C j)) p (fun c => M 0 (C c)) = fun i j => M (R i) (C j) := by
          funext i j; unfold updR; split
          · next e6 => subst e6; rw [hp0]
          · rfl
        have e6 : updR (fun i j => M (R i) (C j)) p (fun c => M k (C c)) = fun i j => M (if i = p then k else R i) (C j) := by
          funext i j; unfold updR; split <;> rfl
        rw [e3, det_lin hp, e5, e6, h1, h2]
        grind
      · have := Int.natAbs_add_le D1 D2
        show _ ≤ 2 * b r
        omega
  · obtain ⟨D, h1, b1⟩ := h r R C
    refine ⟨D, ?_, by show _ ≤ 2 * b r; omega⟩
    rw [← h1]
    exact det_congr fun i j hi _ => by unfold Go.Proofs.YtnpaodlhhcnbgaaGreatDoor.add0 updR; rw [if_neg fun e5 => e ⟨i, hi, e5⟩]
theorem Full.add0 {q D : Int} {n k : Nat} {M : Nat → Nat → Int} (h : Full q n M D) (hn : 0 < n) (h0 : k ≠ 0) (hk : k < n) : Full q n (add0 k M) D := by
  unfold Full at h ⊢
  rw [show Go.Proofs.YtnpaodlhhcnbgaaGreatDoor.add0 k M = updR M 0 fun c => 1 * M 0 c + 1 * M k c from by unfold Go.Proofs.YtnpaodlhhcnbgaaGreatDoor.add0; simp only [Int.one_mul], det_row hn hk (Ne.symm h0), Int.one_mul]
  exact h
def swp (k i : Nat) : Nat := if i = 0 then k else if i = k then 0 else i
theorem Good.swap {q : Int} {b : Nat → Nat} {M : Nat → Nat → Int} (h : Good q b M) (k : Nat) : Good q b (fun i j => M (swp k i) j) := fun r R C => h r (fun i => swp k (R i)) C
theorem Full.swap {q D : Int} {n k : Nat} {M : Nat → Nat → Int} (h : Full q n M D) (hn : 0 < n) (h0 : k ≠ 0) (hk : k < n) : Full q n (fun i j => M (swp k i) j) (-D) := by
  unfold Full at h ⊢
  have e : (fun i j => M (swp k i) j) = updR (updR M 0 (M k)) k (M 0) := by
    funext i j
    unfold updR swp
    by_cases e1 : i = 0
    · subst e1; rw [if_pos rfl, if_neg (Ne.symm h0), if_pos rfl]
    · rw [if_neg e1]
      by_cases e2 : i = k
      · rw [if_pos e2, if_pos e2]
      · rw [if_neg e2, if_neg e2, if_neg e1]
  rw [e, det_swap hn hk (Ne.symm h0)]
  grind
theorem Good.start {A : Nat → Nat → Int} {m : Nat} (h : ∀ i j, (A i j).natAbs ≤ m) : Good 1 (fun r => fct (r + 1) * m ^ (r + 1)) A := fun r R C =>
  ⟨_, by rw [Int.one_pow, Int.one_mul], det_abs fun i j _ _ => h _ _⟩
theorem Full.start (n : Nat) (A : Nat → Nat → Int) : Full 1 n A (det n A) := by unfold Full; rw [Int.one_pow]
def mins : Nat → Int → (Nat → Nat → Int) → List Int
  | 0, _, _ => []
  | n + 1, q, M => M 0 0 :: (if 0 < M 0 0 then mins n (M 0 0) (nxt q M) else [])
def Symm (M : Nat → Nat → Int) : Prop := ∀ i j, M i j = M j i
theorem mins_len : ∀ (n : Nat) (q : Int) (M : Nat → Nat → Int), (mins n q M).length ≤ n := by
  intro n
  induction n with
  | zero => intro q M; exact Nat.le_refl _
  | succ n ih =>
    intro q M
    unfold mins
    have := ih (M 0 0) (nxt q M)
    split <;> simp <;> omega
theorem mins_all : ∀ (n : Nat) (q : Int) (M : Nat → Nat → Int), (∀ x ∈ mins n q M, 0 < x) ↔ n = 0 ∨ ((mins n q M).length = n ∧ 0 < (mins n q M).getD (n - 1) 0) := by
  intro n
  induction n with
  | zero => intro q M; simp [mins]
  | succ n ih =>
    intro q M
    have ih := ih (M 0 0) (nxt q M)
    have e : mins (n + 1) q M = M 0 0 :: (if 0 < M 0 0 then mins n (M 0 0) (nxt q M) else []) := rfl
    rw [e]
    have hl := mins_len n (M 0 0) (nxt q M)
    generalize mins n (M 0 0) (nxt q M) = L at ih hl ⊢
    by_cases ha : 0 < M 0 0
    · rw [if_pos ha]
      cases n with
      | zero =>
        obtain rfl : L = [] := List.length_eq_zero_iff.1 (by omega)
        simp [ha]
      | succ n =>
        simp [ha] at ih ⊢
        rw [ih]
    · rw [if_neg ha]
      simp [ha]
      intro h; subst h; simp; omega
end Go.Proofs.YtnpaodlhhcnbgaaGreatDoor
namespace Go.Proofs.YtnpaodlhhcnbgaaGreatDoor
open Go Go.RowKit
set_option maxRecDepth 100000
def Mat (s : Nat) (L : List (List Int)) (M : Nat → Nat → Int) : Prop := L.length = s ∧ ∀ i, i < s → (L.getD i []).length = s ∧ ∀ j, j < s → zth (L.getD i []) j = M i j
def bb (k r : Nat) : Nat := 2 ^ k * (fct (r + k + 1) * 1073741824 ^ (r + k + 1))
theorem bb_succ (k r : Nat) : bb (k + 1) r = 2 * bb k (r + 1) := by
  unfold bb
  rw [show r + (k + 1) + 1 = r + 1 + k + 1 by omega, Nat.pow_succ, Nat.mul_comm (2 ^ k) 2, Nat.mul_assoc]
theorem bp5_is : bp 5 = 18446744073709551616 * 18446744073709551616 * 18446744073709551616 * 18446744073709551616 * 18446744073709551616 := by
  rw [bp_succ 4, bp_succ 3, bp_succ 2, bp_succ 1, bp_succ 0, bp_zero, Nat.one_mul]
theorem bb_bp {k : Nat} (h : k ≤ 7) : bb k 0 < bp 5 := by
  rw [bp5_is]
  rcases k with _ | _ | _ | _ | _ | _ | _ | _ | k
  · decide +kernel
  · decide +kernel
  · decide +kernel
  · decide +kernel
  · decide +kernel
  · decide +kernel
  · decide +kernel
  · decide +kernel
  · omega
def St (q : Int) (k : Nat) (M : Nat → Nat → Int) : Prop := Good q (bb k) M ∧ q ≠ 0 ∧ q.natAbs < bp 5
theorem Good.mono {q : Int} {b c : Nat → Nat} {M : Nat → Nat → Int} (h : Good q b M) (hbc : ∀ r, b r ≤ c r) : Good q c M := fun r R C => by
  obtain ⟨D, h1, h2⟩ := h r R C
  exact ⟨D, h1, Nat.le_trans h2 (hbc r)⟩
theorem St.entry {q : Int} {k : Nat} {M : Nat → Nat → Int} (h : St q k M) (hk : k ≤ 7) (i j : Nat) : (M i j).natAbs < bp 5 := Nat.lt_of_le_of_lt (h.1.entry i j) (bb_bp hk)
theorem St.next {q : Int} {k : Nat} {M : Nat → Nat → Int} (h : St q k M) (hk : k ≤ 7) (ha : M 0 0 ≠ 0) : St (M 0 0) (k + 1) (nxt q M) :=
  ⟨(h.1.next h.2.1 ha).mono fun r => by rw [bb_succ]; omega, ha, h.entry hk 0 0⟩
def AM (n : Nat) (l : List Int) : Nat → Nat → Int := fun i j => if i < n ∧ j < n then ent n l i j else 0
theorem AM_at {n : Nat} {l : List Int} {i j : Nat} (hi : i < n) (hj : j < n) : AM n l i j = ent n l i j := by unfold AM; rw [if_pos ⟨hi, hj⟩]
theorem AM_abs {n : Nat} {l : List Int} (hR : rt n l = true) (i j : Nat) : (AM n l i j).natAbs ≤ 1073741824 := by
  unfold AM
  split
  · rename_i h
    obtain ⟨k, _, hk, he⟩ := idx_nat hR (show rng (n : Int) i j = true from decide_eq_true (by omega))
    rw [he]
    have := of_decide_eq_true ((rt_spec hR).2.2.2 k hk)
    omega
  · simp
theorem St.start {n : Nat} {l : List Int} (hR : rt n l = true) : St 1 0 (AM n l) :=
  ⟨(Good.start (AM_abs hR)).mono fun r => by unfold bb; rw [Nat.pow_zero, Nat.one_mul, Nat.add_zero]; exact Nat.le_refl _, by decide, by have := bp_mono (show 1 ≤ 5 by omega); rw [bp_succ 0, bp_zero] at this; show (1 : Nat) < bp 5; omega⟩
theorem Mat.start (n : Nat) (l : List Int) : Mat n (sqE n l) (AM n l) := by
  have hl : (sqE n l).length = n := by unfold sqE; simp
  refine ⟨hl, fun i hi => ?_⟩
  have e : (sqE n l).getD i [] = rowE n l i := by
    rw [List.getD_eq_getElem?_getD]
    unfold sqE
    rw [List.getElem?_map, List.getElem?_range hi]
    rfl
  rw [e]
  refine ⟨mk_len _ _, fun j hj => ?_⟩
  unfold rowE
  rw [mk_at hj, AM_at hi hj]
theorem zth_far {l : List Int} {k : Nat} (h : l.length ≤ k) : zth l k = 0 := by
  unfold zth
  rw [List.getD_eq_getElem?_getD, List.getElem?_eq_none h]
  rfl
theorem Mat.few {s k : Nat} {q : Int} {L : List (List Int)} {M : Nat → Nat → Int} (h : Mat s L M) (hs : St q k M) (hk : k ≤ 7) (i : Nat) : Few (L.getD i []) := fun j => by
  have h0 : (0 : Int).natAbs < bp 5 := bp_pos 5
  by_cases hi : i < s
  · obtain ⟨h1, h2⟩ := h.2 i hi
    by_cases hj : j < s
    · rw [h2 j hj]; exact hs.entry hk i j
    · rw [zth_far (by omega)]; exact h0
  · rw [List.getD_eq_getElem?_getD, List.getElem?_eq_none (by rw [h.1]; omega)]
    show (zth [] j).natAbs < _
    rw [zth_far (Nat.zero_le _)]; exact h0
theorem Mat.next {n : Nat} {q : Int} {L : List (List Int)} {M : Nat → Nat → Int} (h : Mat (n + 1) L M) : Mat n ((L.drop 1).map fun R => tk (L.getD 0 []) R q n) (nxt q M) := by
  have hl : (L.drop 1).length = n := by rw [List.length_drop, h.1]; omega
  refine ⟨by rw [List.length_map, hl], fun i hi => ?_⟩
  have e : (((L.drop 1).map fun R => tk (L.getD 0 []) R q n).getD i []) = tk (L.getD 0 []) (L.getD (i + 1) []) q n := by
    rw [List.getD_eq_getElem?_getD, List.getElem?_map, List.getElem?_eq_getElem (by omega), List.getElem_drop]
    have : L.getD (i + 1) [] = L[1 + i]'(by rw [h.1]; omega) := by
      rw [List.getD_eq_getElem?_getD, Nat.add_comm, List.getElem?_eq_getElem (by rw [h.1]; omega)]
      rfl
    rw [this]
    rfl
  rw [e]
  refine ⟨mk_len _ _, fun j hj => ?_⟩
  unfold tk
  rw [mk_at hj, (h.2 0 (by omega)).2 0 (by omega), (h.2 0 (by omega)).2 (j + 1) (by omega), (h.2 (i + 1) (by omega)).2 0 (by omega), (h.2 (i + 1) (by omega)).2 (j + 1) (by omega)]
  rfl
theorem Mat.rest {n : Nat} {L : List (List Int)} {M : Nat → Nat → Int} (h : Mat (n + 1) L M) : ∀ i, i < (L.drop 1).length → ((L.drop 1).getD i []).length = n + 1 := fun i hi => by
  have hl : (L.drop 1).length = n := by rw [List.length_drop, h.1]; omega
  rw [show (L.drop 1).getD i [] = L.getD (i + 1) [] from by rw [List.getD_eq_getElem?_getD, List.getD_eq_getElem?_getD, List.getElem?_drop, Nat.add_comm]]
  exact (h.2 (i + 1) (by omega)).1
def mnC (N : Int) (l : List Int) : Int := if rt N l then 0 else 23
def mnR (N : Int) (l : List Int) : List Int := if rt N l then mins N.toNat 1 (AM N.toNat l) else []
def elimB : ByteArray := ⟨#[101, 108, 105, 109]⟩
def ErrsE (w : World) (u : Value) (e : Int) : Prop := (e = 0 ∧ u = .nilIface) ∨ (e ≠ 0 ∧ ∃ t x, u = .iface t x ∧ IsEr w u (.flt elimB (.num e)))
theorem ErrsE.up {w w' : World} (hu : Up w w') {u : Value} {e : Int} (h : ErrsE w u e) : ErrsE w' u e := by
  rcases h with h | ⟨h1, t, x, h2, h3⟩
  · exact .inl h
  · exact .inr ⟨h1, t, x, h2, h3.up hu⟩
theorem undRbs : Tryz.prog.underlying 103 = some (.slice 49) := by kernel_rfl
theorem infoRbs : (Tryz.prog.info? 49).map (fun i => (i.zero, i.size, i.bytes)) = some (some (.slice none 0 0), 1, 24) := by kernel_rfl
def RowB (w : World) (g : Nat) (l : List Int) : Prop := ∃ C, Blk w g 46 C ∧ l.length * 2 ≤ C.size ∧ ∀ j, j < l.length → BigAt w (fun k => C[k]?) j (zth l j)
theorem RowB.up {w w' : World} (hu : Up w w') {g : Nat} {l : List Int} (h : RowB w g l) : RowB w' g l := by
  obtain ⟨C, h1, h2, h3⟩ := h
  exact ⟨C, h1.up hu, h2, fun j hj => (h3 j hj).up hu⟩
theorem RowB.lt {w : World} {g : Nat} {l : List Int} (h : RowB w g l) : g < w.heap.size := by
  obtain ⟨C, h1, _⟩ := h
  exact h1.lt
theorem Big.grownR {w w' : World} {row : Option Nat} {v : Value} {z : Int} (h : Big w v z) (hg : w.grownBy w' row) (hr : ∀ k, row = some k → ∃ C, Blk w k 49 C) : Big w' v z := by
  obtain ⟨a, c, h1, a2, c2, h2, h3, h4⟩ := h
  refine ⟨a, c, h1, a2, c2, h2, h3, fun h0 => ?_⟩
  obtain ⟨b, E, h5, h6, h7⟩ := h4 h0
  refine ⟨b, E, h5, ?_, h7⟩
  unfold Blk
  rw [hg.block b h6.lt ?_]
  · exact h6
  · intro e
    obtain ⟨C, hC⟩ := hr b e.symm
    unfold Blk at hC h6
    rw [hC] at h6
    simp at h6
theorem RowB.grown {w w' : World} {row : Option Nat} {g : Nat} {l : List Int} (h : RowB w g l) (hg : w.grownBy w' row) (hr : ∀ k, row = some k → ∃ C, Blk w k 49 C) : RowB w' g l := by
  obtain ⟨C, h1, h2, h3⟩ := h
  refine ⟨C, ?_, h2, fun j hj => ?_⟩
  · unfold Blk
    rw [hg.block g h1.lt ?_]
    · exact h1
    · intro e
      obtain ⟨D, hD⟩ := hr g e.symm
      unfold Blk at hD h1
      rw [hD] at h1
      simp at h1
  · obtain ⟨b, a, n, c, h4, h5, h6⟩ := h3 j hj
    exact ⟨b, a, n, c, h4, h5, h6.grownR hg hr⟩
theorem OwnB.rowB {w : World} {base g n c : Nat} {l : List Int} (h : OwnB w base (.slice (some ⟨g, 0, none⟩) n c) l) (h0 : 0 < l.length) : RowB w g l ∧ base ≤ g := by
  obtain ⟨g', cap, C, hv, hb, hB, hc, _, hs, hE⟩ := h.open h0
  injection hv with e1
  injection e1 with e1
  injection e1 with e1
  subst e1
  exact ⟨⟨C, hB, by omega, hE⟩, hb⟩
def OwnM (w : World) (base : Nat) (v : Value) (n m : Nat) (G : Nat → Nat) (V : Nat → Nat → Int) : Prop :=
  ∃ xs : List Value, w.ownsRow base 49 1 v n xs ∧ (∀ i, i < n → ∃ c, xs[i]? = some (.slice (some ⟨G i, 0, none⟩) m c)) ∧ (∀ i, i < n → base ≤ G i ∧ RowB w (G i) (mk m (V i))) ∧ ∀ i j, i < n → j < n → G i = G j → i = j
theorem OwnM.up {w w' : World} (hu : Up w w') {base n m : Nat} {v : Value} {G : Nat → Nat} {V : Nat → Nat → Int} (h : OwnM w base v n m G V) : OwnM w' base v n m G V := by
  obtain ⟨xs, h1, h2, h3, h4⟩ := h
  exact ⟨xs, World.ownsRow.up h1 hu, h2, fun i hi => ⟨(h3 i hi).1, (h3 i hi).2.up hu⟩, h4⟩
theorem OwnM.nil (w : World) (base m : Nat) (G : Nat → Nat) (V : Nat → Nat → Int) : OwnM w base (.slice none 0 0) 0 m G V :=
  ⟨[], World.ownsRow_nil _ _ _ _, fun _ hi => absurd hi (Nat.not_lt_zero _), fun _ hi => absurd hi (Nat.not_lt_zero _), fun _ _ hi => absurd hi (Nat.not_lt_zero _)⟩
theorem OwnM.congr {w : World} {base n m : Nat} {v : Value} {G : Nat → Nat} {V K : Nat → Nat → Int} (h : OwnM w base v n m G V) (hVK : ∀ i j, i < n → j < m → V i j = K i j) : OwnM w base v n m G K := by
  obtain ⟨xs, h1, h2, h3, h4⟩ := h
  refine ⟨xs, h1, h2, fun i hi => ?_, h4⟩
  have e : mk m (V i) = mk m (K i) := zth_ext (by rw [mk_len, mk_len]) fun j hj => by rw [mk_len] at hj; rw [mk_at hj, mk_at hj, hVK i j hi hj]
  rw [← e]
  exact h3 i hi
theorem OwnM.open {w : World} {base n m : Nat} {v : Value} {G : Nat → Nat} {V : Nat → Nat → Int} (h : OwnM w base v n m G V) (h0 : 0 < n) :
    ∃ g cap C, v = .slice (some ⟨g, 0, none⟩) n cap ∧ base ≤ g ∧ n ≤ cap ∧ Blk w g 49 C ∧ ∀ i, i < n → ∃ c, C[i]? = some (.slice (some ⟨G i, 0, none⟩) m c) := by
  obtain ⟨xs, ⟨_, h1 | ⟨g, cap, cur, hv, hb, hB, hc, _, _, ht⟩⟩, h2, _⟩ := h
  · omega
  · refine ⟨g, cap, cur, hv, hb, hc, hB, fun i hi => ?_⟩
    obtain ⟨c, h3⟩ := h2 i hi
    rw [← ht, List.getElem?_take_of_lt (by omega), Array.getElem?_toList] at h3
    exact ⟨c, h3⟩
theorem OwnM.slice {w : World} {base n m : Nat} {v : Value} {G : Nat → Nat} {V : Nat → Nat → Int} (h : OwnM w base v n m G V) : ∃ p c, v = .slice p n c := by
  obtain ⟨xs, ⟨_, ⟨rfl, h1⟩ | ⟨g, cap, cur, hv, _⟩⟩, _⟩ := h
  · exact ⟨none, 0, by rw [h1]⟩
  · exact ⟨_, cap, hv⟩
theorem OwnM.entry {w : World} {base n m : Nat} {v : Value} {G : Nat → Nat} {V : Nat → Nat → Int} (h : OwnM w base v n m G V) {i j : Nat} (hi : i < n) (hj : j < m) :
    ∃ C b a k c, Blk w (G i) 46 C ∧ m * 2 ≤ C.size ∧ C[j * 2]? = some (.bool b) ∧ C[j * 2 + 1]? = some (.slice a k c) ∧ Big w (.agg #[.bool b, .slice a k c]) (V i j) := by
  obtain ⟨xs, _, _, h3, _⟩ := h
  obtain ⟨_, C, h4, h5, h6⟩ := h3 i hi
  rw [mk_len] at h5 h6
  obtain ⟨b, a, k, c, h7, h8, h9⟩ := h6 j hj
  rw [mk_at hj] at h9
  exact ⟨C, b, a, k, c, h4, h5, h7, h8, h9⟩
def upd2 (V : Nat → Nat → Int) (a b : Nat) (z : Int) : Nat → Nat → Int := fun i j => if i = a ∧ j = b then z else V i j
theorem RowB.other {w : World} {g p : Nat} {C : Array Value} {l : List Int} (h : RowB w g l) (hC : Blk w p 46 C) (D : Array Value) (hne : g ≠ p) : RowB (w.setRow p D) g l := by
  obtain ⟨E, h1, h2, h3⟩ := h
  refine ⟨E, h1.row_other D hne, h2, fun j hj => ?_⟩
  obtain ⟨b, a, n, c, h4, h5, h6⟩ := h3 j hj
  exact ⟨b, a, n, c, h4, h5, h6.setRow hC⟩
theorem OwnM.set {w : World} {base n m : Nat} {v : Value} {G : Nat → Nat} {V : Nat → Nat → Int} (h : OwnM w base v n m G V) {i j : Nat} (hi : i < n) (hj : j < m) {C : Array Value} (hC : Blk w (G i) 46 C)
    {b : Bool} {p : Option Addr} {k c : Nat} {z : Int} (hz : Big w (.agg #[.bool b, .slice p k c]) z) :
    OwnM (w.setRow (G i) (splB C (j * 2) [.bool b, .slice p k c])) base v n m G (upd2 V i j z) ∧ j * 2 + 2 ≤ C.size := by
  obtain ⟨xs, ⟨h0, h1⟩, h2, h3, h4⟩ := h
  obtain ⟨_, C', h5, h6, h7⟩ := h3 i hi
  have hCC : C' = C := by
    unfold Blk at hC h5
    rw [hC] at h5
    simp at h5
    exact h5.symm
  subst hCC
  rw [mk_len] at h6 h7
  have hl : j * 2 + 2 ≤ C'.size := by omega
  refine ⟨⟨xs, ⟨h0, ?_⟩, h2, fun i' hi' => ⟨(h3 i' hi').1, ?_⟩, h4⟩, hl⟩
  · rcases h1 with h1 | ⟨g, cap, cur, hv, hb, hB, hr⟩
    · exact .inl h1
    · refine .inr ⟨g, cap, cur, hv, hb, Blk.row_other (w := w) hB _ fun e => ?_, hr⟩
      subst e
      unfold Blk at hC
      rw [hC] at hB
      simp at hB
  · by_cases e : i' = i
    · subst e
      refine ⟨splB C' (j * 2) [.bool b, .slice p k c], hC.setRow _, by rw [mk_len, splB_size hl]; exact h6, fun q hq => ?_⟩
      rw [mk_len] at hq
      rw [mk_at hq]
      by_cases eq : q = j
      · subst eq
        refine ⟨b, p, k, c, by dsimp only; rw [splB_get hl, if_pos rfl], by dsimp only; rw [splB_get hl, if_neg (by omega), if_pos rfl], ?_⟩
        unfold upd2
        rw [if_pos ⟨rfl, rfl⟩]
        exact hz.setRow hC
      · obtain ⟨b', a', n', c', e1, e2, e3⟩ := h7 q hq
        rw [mk_at hq] at e3
        refine ⟨b', a', n', c', by dsimp only; rw [splB_get hl, if_neg (by omega), if_neg (by omega)]; exact e1, by dsimp only; rw [splB_get hl, if_neg (by omega), if_neg (by omega)]; exact e2, ?_⟩
        unfold upd2
        rw [if_neg (fun x => eq x.2)]
        exact e3.setRow hC
    · have e2 : mk m (upd2 V i j z i') = mk m (V i') := zth_ext (by rw [mk_len, mk_len]) fun q hq => by
        rw [mk_len] at hq
        rw [mk_at hq, mk_at hq]
        unfold upd2
        rw [if_neg (fun x => e x.1)]
      rw [e2]
      exact (h3 i' hi').2.other hC _ (fun x => e (h4 i' i hi' hi x))
theorem appM {ops : Array Oper} {rest : List Oper} {Q : Exit → Act → World → Prop} {a : Act} {w : World} {d : Option Tmp} {s u : Operand} {ty : TypeId} {pos : String} {af : Array Edge} {base b g c r n m cr : Nat} {v : Value} {G : Nat → Nat} {V : Nat → Nat → Int}
    (hs : a.eval s = v) (hu : a.eval u = .slice (some ⟨g, 0, none⟩) 1 c) (hown : OwnM w base v n m G V) (hV : w.cell? ⟨g, 0, none⟩ = some (.slice (some ⟨r, 0, none⟩) m cr)) (hx : RowB w r (mk m (V n))) (hG : ∀ i, i < n → G i < b) (hr : b ≤ r) (hbr : base ≤ b) (hbase : base ≤ w.heap.size) (hl : n < 1000000)
    (h : ∀ v' w', OwnM w' base v' (n + 1) m (fun i => if i = n then r else G i) V → Below base w w' → (∀ i, i < n + 1 → (if i = n then r else G i) < w'.heap.size) → wpList Tryz.prog ops Q rest (a.put d v') w') :
    wpList Tryz.prog ops Q ({ dst := d, op := .call { callee := .builtin .append, args := #[s, u], argTypes := #[103, 103] }, type := ty, pos := pos, after := af, guard := none } :: rest) a w := by
  obtain ⟨i0, hi0, he⟩ := Option.map_eq_some_iff.1 infoRbs
  simp only [Prod.mk.injEq] at he
  obtain ⟨xs, hxs, hE, hRw, hInj⟩ := hown
  have hlt := World.ownsRow.lt hxs
  have hrow : ∀ k, v.ownBlock = some k → ∃ C, Blk w k 49 C := by
    intro k hk
    obtain ⟨_, ⟨rfl, _⟩ | ⟨g', cap, cur, rfl, _, hB, _⟩⟩ := hxs
    · simp [Value.ownBlock] at hk
    · simp [Value.ownBlock] at hk; subst hk; exact ⟨cur, hB⟩
  have hxl : xs.length = n := by have := hxs.1; omega
  refine wpList_append_own w rfl s u 103 rfl base 49 i0 _ 1 24 undRbs hi0 he.1 he.2.1 he.2.2 rfl (by decide) v n xs hs hxs ⟨g, 0, none⟩ 1 c [.slice (some ⟨r, 0, none⟩) m cr] hu rfl (fun j y hy => by
    rcases j with _ | j
    · simp at hy; subst hy; rw [Addr.add_mid]; exact hV
    · simp at hy) (by simp [Value.oneCell']) (by unfold maxLen; omega) (by omega) hbase ?_
  intro v' w' h1 h2 _
  refine h v' w' ⟨xs ++ [.slice (some ⟨r, 0, none⟩) m cr], h1, fun i hi => ?_, fun i hi => ?_, fun i j hi hj e => ?_⟩ ⟨h2.os, h2.tape, h2.output, h2.size, fun k hk => h2.block k (by omega) fun e => ?_⟩ (fun i hi => ?_)
  · by_cases e : i < n
    · obtain ⟨c', h3⟩ := hE i e
      refine ⟨c', ?_⟩
      dsimp only
      rw [List.getElem?_append_left (by omega), if_neg (by omega)]
      exact h3
    · obtain rfl : i = n := by omega
      exact ⟨cr, by dsimp only; rw [List.getElem?_append_right (by omega), hxl, Nat.sub_self, if_pos rfl]; rfl⟩
  · by_cases e : i < n
    · dsimp only
      rw [if_neg (by omega)]
      exact ⟨(hRw i e).1, (hRw i e).2.grown h2 hrow⟩
    · obtain rfl : i = n := by omega
      dsimp only
      rw [if_pos rfl]
      exact ⟨by omega, hx.grown h2 hrow⟩
  · by_cases e1 : i = n <;> by_cases e2 : j = n
    · omega
    · dsimp only at e
      rw [if_pos e1, if_neg e2] at e
      have := hG j (by omega); omega
    · dsimp only at e
      rw [if_neg e1, if_pos e2] at e
      have := hG i (by omega); omega
    · dsimp only at e
      rw [if_neg e1, if_neg e2] at e
      exact hInj i j (by omega) (by omega) e
  · have := hlt k e.symm
    omega
  · have hsz := h2.size
    by_cases e : i = n
    · rw [if_pos e]; have := hx.lt; omega
    · rw [if_neg e]; have := (hRw i (by omega)).2.lt; omega
end Go.Proofs.YtnpaodlhhcnbgaaGreatDoor
