/-
  Frames: frames that stand one behind another all come, in order (FrameRow).
-/
import Derived.Test.YtmpikkhfeogdcaaFrD
import Derived.Lib.MinMax
namespace Go.Proofs.Ytmpikkhfeogdcaa
open Go Go.RowKit
set_option maxRecDepth 100000

theorem pz_left_le (l : List Nat) : (pz l).2.2.length ≤ l.length := by
  obtain ⟨k, _, e⟩ := pz_left l
  rw [e, List.length_drop]
  omega
/-- What a slice read as in the world w0. -/
def RW (w0 : World) : World → Value → List Nat → Prop := fun _ x l => Bw w0 x l
def flat (W : List (List Nat)) : List Nat := (W.map fr).flatten
theorem flat_snoc1 (W : List (List Nat)) (x : List Nat) : flat (W ++ [x]) = flat W ++ fr x := by unfold flat; simp
theorem row_big {w : World} (p : Option Addr) {n : Nat} (c : Nat) (k : Int) (h : 12 < n) :
    Calls Try.prog 5 #[.slice p n c, .int .u8 k] w fun e w' => e = .returned (.bool true) ∧ Up w w' := by
  have HK := hid known_fr
  go_enter Try.func5, Try.ntmps5
  go_wp2_with (first
    | (go_at_call 7; with_reducible refine (HK.out _).mono ?_; rintro e w1 ⟨rfl, hu1⟩))
  go_ret
  exact ⟨rfl, hu1⟩
/-- The frames so far, and their payloads. -/
def RowI (w w1 : World) (W : List (List Nat)) (ta tw : Value) (wr : World) : Prop :=
  OwnU wr w1.heap.size ta (flat W) ∧ OwnL (RW w) wr w1.heap.size tw W ∧ (∀ x ∈ W, 1 ≤ x.length ∧ x.length ≤ 40) ∧ Up w1 wr ∧ (flat W).length ≤ 45 * W.length
theorem RowI.up {w w1 : World} {W : List (List Nat)} {ta tw : Value} {wr w' : World} (h : RowI w w1 W ta tw wr) (hu : Up wr w') : RowI w w1 W ta tw w' :=
  ⟨h.1.up hu, h.2.1.up hu fun _ _ k => k, h.2.2.1, h.2.2.2.1.trans hu, h.2.2.2.2⟩
set_option maxHeartbeats 8000000 in
theorem row_any {w : World} {p : Option Addr} {n c k : Nat} (h12 : n ≤ 12) (hR : RowsIn w p n) :
    Calls Try.prog 5 #[.slice p n c, .int .u8 (k : Int)] w fun e w' => e = .returned (.bool true) ∧ Up w w' := by
  have HK := hid known_fr
  have HR := hid hR
  clear hR
  go_enter Try.func5, Try.ntmps5
  go_wp2_with (first
    | (go_at_call 7; with_reducible refine (HK.out _).mono ?_; rintro e w1 ⟨rfl, hu1⟩))
  go_loopg [5, 6, 7] n (fun gg ta tw ti wr => ∃ (j : Nat) (W : List (List Nat)), j ≤ n ∧ n - j ≤ gg ∧ ti = .int .i64 (j : Nat) ∧ W.length ≤ j ∧ Hid (RowI w w1 W ta tw wr))
  case atStart => exact ⟨0, [], Nat.zero_le _, Nat.le_refl _, rfl, Nat.le_refl _, hid ⟨OwnU.nil _ _, OwnL.nil _ _ _, fun _ h => (by cases h), Up.refl _, Nat.le_refl _⟩⟩
  case round =>
    obtain ⟨j, W, hj, hjg, rfl, hW, HI⟩ := hrel
    by_cases hlt : j < n
    · have ei : IntKind.i64.wrap ((j : Int) + 1) = (j : Int) + 1 := IntWalk.i64_in _ (by omega)
      obtain ⟨a, sq, m, cm, rfl, hc, hB⟩ := HR.out j hlt
      have hwr : Up w wr := hu1.trans HI.out.2.2.2.1
      have hcr := hwr.cell hc
      by_cases hm : 1 ≤ m ∧ m ≤ 40
      · obtain ⟨hm1, hm40⟩ := hm
        obtain ⟨x, hx, hBx⟩ := hB (by omega)
        have HX := hid hBx
        have HXL := hid hx
        have E40 := decide_eq_true (show (m : Int) ≤ 40 by omega)
        clear hB hBx hx
        go_wp2_with (first
          | (go_at_call 8; with_reducible refine (put_any HXL.out (HX.out.up hwr) hm1 hm40).mono ?_; rintro e w4 ⟨v4, rfl, hv4, hu4⟩; have hc4 := hu4.cell hcr))
        have hw14 : Up w1 w4 := HI.out.2.2.2.1.trans hu4
        have HA := hid (fun w' (hu : Up w4 w') => (HI.out.1.up (hu4.trans hu)))
        have HF := hid (fun w' (hu : Up w4 w') => (hv4.up hu).bw)
        have HW := hid (fun w' (hu : Up w4 w') => (HI.out.2.1.up (hu4.trans hu) fun _ _ h => h))
        have hcl : (a.add j).block < w1.heap.size := Nat.lt_of_lt_of_le (World.block_lt_of_cell? w _ hc) hu1.size
        have HLF := hid (show (flat W).length + (fr x).length ≤ 1000 by rw [fr_len, HXL.out]; have := HI.out.2.2.2.2; omega)
        have HLW := hid (show W.length + 1 ≤ 1000 by omega)
        have HXW := hid (show RW w w (.slice sq m cm) x from HX.out)
        go_region_held3 (fun w' => w'.cell? (a.add j) = some (.slice sq m cm)) (first | go_keep | (rw [Below.cell hb5 hcl]; assumption) | (rw [Below.cell hb6 hcl]; assumption))
          (first
            | (refine stepU (l := flat W) (m := fr x) (base := w1.heap.size) (by rfl) (by rfl) (HA.out _ (by repeat (first | exact Up.refl _ | assumption | apply up_alloc | apply up_drew))) (HF.out _ (by repeat (first | exact Up.refl _ | assumption | apply up_alloc | apply up_drew))) (hw14.trans (by repeat (first | exact Up.refl _ | assumption | apply up_alloc | apply up_drew))).size HLF.out ?_; intro v5 w5 hO5 hk5 hb5; have hW5 := OwnL.keepY (HW.out _ (by repeat (first | exact Up.refl _ | assumption | apply up_alloc | apply up_drew))) hk5 (fun _ _ h => h); have hu5 : Up w1 w5 := Below.trans (hw14.trans (by repeat (first | exact Up.refl _ | assumption | apply up_alloc | apply up_drew))) hb5)
            | (refine stepL (R := RW w) (ls := W) (l1 := x) (base := w1.heap.size) (by rfl) (by rfl) (hW5.up (by repeat (first | exact Up.refl _ | assumption | apply up_alloc | apply up_drew)) fun _ _ h => h) (Lw.one (by first | exact new_at (by simp) | exact Up.row (by repeat (first | exact Up.refl _ | assumption | apply up_alloc | apply up_drew)) (hk5 _ _ _ _ (by decide) (new_at (by simp)))) HXW.out) (hu5.trans (by repeat (first | exact Up.refl _ | assumption | apply up_alloc | apply up_drew))).size HLW.out (fun _ _ _ _ h => h) ?_; intro v6 w6 hO6 hk6 hb6; have hA6 := OwnU.keepX (hO5.up (by repeat (first | exact Up.refl _ | assumption | apply up_alloc | apply up_drew))) hk6; have hu6 : Up w1 w6 := Below.trans (hu5.trans (by repeat (first | exact Up.refl _ | assumption | apply up_alloc | apply up_drew))) hb6))
        all_goals
          go_wp2_with fail
          go_roundg (n - (j + 1))
          case measure => omega
          case rel => exact ⟨j + 1, W ++ [x], by omega, Nat.le_refl _, rfl, by rw [List.length_append, List.length_singleton]; omega, hid ⟨by rw [flat_snoc1]; exact hA6, hO6, fun y hy => (List.mem_append.1 hy).elim (HI.out.2.2.1 y) (fun h => by rw [List.mem_singleton.1 h, HXL.out]; exact ⟨hm1, hm40⟩), hu6, by rw [flat_snoc1, List.length_append, List.length_append, List.length_singleton, fr_len, HXL.out]; have := HI.out.2.2.2.2; omega⟩⟩
      · have HM := hid hm
        clear hB
        go_wp2_with (first
          | (go_at_call 8; with_reducible refine (put_no HM.out).mono ?_; rintro e w4 ⟨rfl, rfl⟩))
        all_goals
          go_roundg (n - (j + 1))
          case measure => omega
          case rel => exact ⟨j + 1, W, by omega, Nat.le_refl _, rfl, by omega, HI⟩
    · obtain rfl : j = n := by omega
      clear hlt hj hjg
      obtain ⟨wf, hwf⟩ : ∃ x, x = wr := ⟨_, rfl⟩
      subst hwf
      have hwf : Up w wf := hu1.trans HI.out.2.2.2.1
      obtain ⟨pa, N, ca, hN, rfl⟩ : ∃ p N c, (flat W).length = N ∧ u5 = .slice p N c := by
        obtain ⟨p, c, e⟩ := HI.out.1.slice
        exact ⟨p, _, c, rfl, e⟩
      have hN5 : N ≤ 540 := by have := HI.out.2.2.2.2; omega
      have HN := hid hN
      have HZ := hid (show pz (flat W) = (W, 0, []) from pz_row W HI.out.2.2.1)
      have HA := hid HI.out.1
      have HWW := hid HI.out.2.1
      generalize flat W = L at *
      obtain ⟨st, hst⟩ : ∃ x, k % 20 = x := ⟨_, rfl⟩
      obtain ⟨s, hs⟩ : ∃ x, st + 1 = x := ⟨_, rfl⟩
      have hs20 : s ≤ 20 := by omega
      have hs1 : 1 ≤ s := by omega
      have E1 : (k : Int).tmod 20 = (st : Int) := by rw [← hst]; exact (Int.ofNat_tmod k 20).symm
      have E2 : IntKind.i64.wrap (st : Int) = (st : Int) := IntWalk.i64_in _ (by omega)
      have E3 : IntKind.i64.wrap ((st : Int) + 1) = (s : Int) := by rw [IntWalk.i64_in _ (by omega)]; omega
      clear hN hst hs HI
      go_wp2_with (first
        | (go_at_call 10; refine (new_any _).mono ?_; rintro e w17 ⟨rfl, hP17, hu17⟩))
      clear E1 E2 E3
      go_loopg [11, 13] N (fun gg tg ti wq => ∃ i : Nat, i ≤ N + 20 ∧ N - i ≤ gg ∧ ti = .int .i64 (i : Nat) ∧ Hid (Par wq wf.heap.size (pz (L.take i)).2.2 (pz (L.take i)).2.1 ∧ OwnL (RU w17.heap.size) wq w17.heap.size tg (pz (L.take i)).1 ∧ Up wf wq ∧ w17.heap.size ≤ wq.heap.size))
      case atStart => exact ⟨0, by omega, Nat.le_refl _, rfl, hid ⟨hP17, OwnL.nil _ _ _, hu17, Nat.le_refl _⟩⟩
      case round =>
        obtain ⟨i, hi, hig, rfl, HJ⟩ := hrel
        obtain ⟨hJ1, hJ2, hJ3, hJ4⟩ := HJ.out
        have h17 := hid hJ4
        by_cases hlt : i < N
        · obtain ⟨e, he⟩ : ∃ x, min (i + s) N = x := ⟨_, rfl⟩
          have hei : i < e := by omega
          have heN : e ≤ N := by omega
          have he20 : e ≤ i + 20 := by omega
          have E4 : IntKind.i64.wrap ((i : Int) + (s : Int)) = (i : Int) + (s : Int) := IntWalk.i64_in _ (by omega)
          have E5 : min ((i : Int) + (s : Int)) (N : Int) = (e : Int) := by omega
          have hcap := HA.out.bw.cap'
          have HT := hid (show L.take i ++ (L.take e).drop i = L.take e from by
            have h1 : L.take i = (L.take e).take i := by rw [List.take_take, Nat.min_eq_left (Nat.le_of_lt hei)]
            rw [h1, List.take_append_drop])
          have HTE := hid (show L.take (i + s) = L.take e from by
            by_cases h : i + s ≤ N
            · rw [show e = i + s by omega]
            · rw [show e = N by omega, List.take_of_length_le (by rw [HN.out]; omega), List.take_of_length_le (by rw [HN.out]; exact Nat.le_refl _)])
          have HPZ := hid (pz_app (L.take i) ((L.take e).drop i))
          rw [HT.out] at HPZ
          have HPB := hid (show Bw wr (.slice (fromP pa ca i) (e - i) (ca - i)) ((L.take e).drop i) from ((HA.out.bw.up hJ3).take HN.out heN).drop (by rw [List.length_take, HN.out]; omega) (Nat.le_of_lt hei))
          have HPL := hid (show ((L.take e).drop i).length = e - i by rw [List.length_drop, List.length_take, HN.out]; omega)
          obtain ⟨pc, hpc⟩ : ∃ x, (L.take e).drop i = x := ⟨_, rfl⟩
          have f1 := pz_left_le (L.take i)
          have f2 := (pz_few (L.take i)).2
          have f3 := (pz_few (L.take e)).1
          rw [List.length_take, HN.out] at f1 f2 f3
          have f4 : (pz (L.take i)).1.length + (pz ((pz (L.take i)).2.2 ++ pc)).1.length = (pz (L.take e)).1.length := by rw [HPZ.out, hpc, List.length_append]
          rw [hpc] at HPZ HPB HPL
          clear hpc he
          obtain ⟨Ti, hTi⟩ : ∃ x, (pz (L.take i)).1 = x := ⟨_, rfl⟩
          obtain ⟨Bi, hBi⟩ : ∃ x, (pz (L.take i)).2.1 = x := ⟨_, rfl⟩
          obtain ⟨Li, hLi⟩ : ∃ x, (pz (L.take i)).2.2 = x := ⟨_, rfl⟩
          rw [hTi, hBi, hLi] at HPZ
          rw [hLi] at f1 f4
          rw [hBi] at f2
          rw [hTi] at f4
          rw [hLi, hBi] at hJ1
          rw [hTi] at hJ2
          have HF1 := hid (show Li.length + pc.length ≤ 1000 by rw [HPL.out]; omega)
          have HF2 := hid (show Bi ≤ 1000000 by omega)
          have HF3 := hid (show Ti.length + (pz (Li ++ pc)).1.length ≤ 1000 by omega)
          have hg17 : wf.heap.size < w17.heap.size := hP17.lt
          clear f1 f2 f3 f4 hTi hBi hLi HT HJ
          go_wp2_with (first
            | ((with_reducible apply slFT (i := i) (j := e)); exact rfl; exact rfl; exact rfl; exact rfl; exact rfl; (focus omega); exact heN; exact hcap)
            | (go_at_call 11; with_reducible refine (feed_any (L := Li ++ pc) (l := Li) (m := pc) (b := Bi) rfl hJ1 HPB.out HF1.out HF2.out).mono ?_; rintro e9 w20 ⟨v20, rfl, hv20, hP20, hg20⟩)
            | ((with_reducible apply appL (R := RU w17.heap.size) (base := w17.heap.size) (ls := Ti) (ms := (pz (Li ++ pc)).1)); exact rfl; exact rfl; exact hJ2.but hg20 hg17 (fun x l h => OwnU.but h hg20 hg17); exact (hv20.imp fun x l h => OwnU.mono h h17.out).lw; exact Nat.le_trans h17.out hg20.size; exact HF3.out; exact RU.keep _; rintro v21 w21 hO21 hk21 hg21 hb21))
          go_roundg (N - (i + s))
          case measure => omega
          case rel => exact ⟨i + s, by omega, Nat.le_refl _, rfl, hid ⟨by rw [HTE.out, HPZ.out]; exact hP20.keepX hk21, by rw [HTE.out, HPZ.out]; exact hO21, Below.trans (up_gb hJ3 hg20 (Nat.le_refl _)) (Below.mono hb21 (Nat.le_of_lt hg17)), Nat.le_trans h17.out (Nat.le_trans hg20.size hb21.size)⟩⟩
        · have HTN := hid (show L.take i = L from List.take_of_length_le (by rw [HN.out]; omega))
          rw [HTN.out, HZ.out] at hJ1 hJ2
          dsimp only at hJ1 hJ2
          have hwr : Up w wr := hwf.trans hJ3
          have HG := hid (hJ2.lw.imp fun x l h => RU.bw h)
          have HWN := hid ((HWW.out.up hJ3 fun _ _ h => h).lw.imp fun x l (h : RW w wr x l) => Bw.up hwr h)
          clear HJ
          go_wp2_with (first
            | (go_at_call 14; with_reducible refine (lists_any HG.out HWN.out).mono ?_; rintro e9 w22 ⟨rfl, hu22⟩; have hP22 := hJ1.up hu22)
            | (go_at_call 12; with_reducible refine (left_any hP22).mono ?_; rintro e9 w23 ⟨rfl, rfl⟩)
            | (go_at_call 13; with_reducible refine (bad_any hP22).mono ?_; rintro e9 w24 ⟨rfl, rfl⟩))
          go_ret
          exact ⟨rfl, hwr.trans hu22⟩
theorem row_row {w : World} {p : Option Addr} {n c : Nat} {k : Int} (w0 : ∀ r, r < n → ∃ (a : Addr) (q : Option Addr) (m c : Nat) (z : List Int), p = some a ∧ w.cell? (a.add r) = some (.slice q m c) ∧ ((q = none ∧ m = 0 ∧ c = 0 ∧ z = []) ∨
    ∃ x, q = some x ∧ m ≤ c ∧ c ≤ maxLen ∧ z.length = c ∧ (∀ i, i < z.length → w.cell? (x.add i) = some (.int .u8 (z.getD i 0))) ∧ ∀ n ∈ z, (Lit.int .u8 n).wf = true)) (w1 : (Lit.int .u8 k).wf = true) :
    Calls Try.prog 5 #[.slice p n c, .int .u8 k] w fun e w' => e = .returned (.bool true) ∧ Below w.heap.size w w' := by
  obtain ⟨k, rfl, _⟩ := wf_nat (m := 255) w1 IntKind.min_u8 IntKind.max_u8
  by_cases h : 12 < n
  · exact row_big _ _ _ h
  · refine row_any (by omega) fun r hr => ?_
    obtain ⟨a, q, m, c, z, h1, h2, h3⟩ := w0 r hr
    exact ⟨a, q, m, c, h1, h2, fun h1000 => by obtain ⟨l, rfl, hB⟩ := bw_in h3 h1000; exact ⟨l, rfl, hB⟩⟩
end Go.Proofs.Ytmpikkhfeogdcaa
