/-
  What the claim's law is built of: Over, DivB.
-/
import Derived.Test.YtbogbdokllmanaaPg
import Derived.Deep.DeepCutAuto
import Derived.Deep.CutRange
import Derived.Deep.CutBlock
/-
  The reference's quotient by a divisor of two limbs or more.
-/
namespace Go.Proofs.Ytbogbdokllmanaa
open Go Go.RowKit
set_option maxRecDepth 100000

set_option maxHeartbeats 16000000 in
theorem over_long {x y : Nat} {va vb : Value} {w : World} (ha : Am w va x) (hb : Am w vb y) (hx : nl x < 50000) (hxy : y ≤ x) (hy : 2 ≤ nl y) :
    Calls Try.prog 34 #[va, vb] w fun e w' => Up w w' ∧ ∃ a n c b m d, e = .returned (.tuple #[.slice a n c, .slice b m d]) ∧ Am w' (.slice a n c) (x / y) ∧ Am w' (.slice b m d) (x % y) := by
  obtain ⟨a, ca, rfl, hca1, hca0⟩ := ha.open
  obtain ⟨b, cb, rfl, hcb1, hcb0⟩ := hb.open
  have hxn := lt_bp_nl x
  have hyn := lt_bp_nl y
  have htop : limb y (nl y - 1) ≠ 0 := lenL_top (limb y) y (show 0 < nl y by omega)
  have hmn : nl y ≤ nl x := nl_le (Nat.lt_of_le_of_lt hxy hxn)
  have hy0 : 0 < y := nl_pos_iff.1 (by omega)
  obtain ⟨s, hs⟩ : ∃ s, s = 64 - Lib.bitLen (limb y (nl y - 1)) := ⟨_, rfl⟩
  obtain ⟨hP1, hP2, hs64⟩ := norm_part hyn (by omega) htop hs
  have hlz := fun w => Try.bits_LeadingZeros64 (limb y (nl y - 1) : Nat) w (by omega) (by have := limb_lt y (nl y - 1); omega)
  have hbl := (bitLen_spec (limb_lt y (nl y - 1)) htop).2.2.2
  rw [Int.toNat_natCast, show (64 : Int) - (Lib.bitLen (limb y (nl y - 1)) : Int) = (s : Nat) by omega] at hlz
  obtain ⟨hX1, hX2⟩ := over_start hxn (show 0 < nl y by omega) hmn hs64 hP2
  have HC := hid (fun w' (h : Up w w') => cmp_am (ha.up h) (hb.up h) (by omega) (by omega))
  have hL1 := fun w' (h : Up w w') => left_row (hb.up h) (by omega) hy0 hs64
  have hL2 := fun w' (h : Up w w') => left_row (ha.up h) (by omega) (by omega) hs64
  have hnP : nl (y * 2 ^ s) = nl y := by
    have h1 := nl_left hy0 hs64
    have h2 := nl_le hP1
    omega
  have hnX := nl_left (x := x) (by omega) hs64
  obtain ⟨bb, rfl, hbb, hcb⟩ := hcb0 (nl y - 1) (by omega)
  rw [hnP] at hL1
  have hlx := limb_lt y (nl y - 1)
  clear hcb0 hca0 hxn hyn htop hbl hs hnP
  obtain ⟨L, hL⟩ : ∃ L, nl (x * 2 ^ s) = L := ⟨_, rfl⟩
  rw [hL] at hL2 hnX
  obtain ⟨n, hn⟩ : ∃ n, nl x = n := ⟨_, rfl⟩
  obtain ⟨m, hm⟩ : ∃ m, nl y = m := ⟨_, rfl⟩
  rw [hn] at hL2 hnX hX1 hX2 hmn hx hca1 HC ⊢
  rw [hm] at hL1 hP1 hP2 hX2 hmn hy hlz hcb hlx hcb1 HC ⊢
  have HLn := hid hL
  clear hn hm hL
  obtain ⟨m1, hm1⟩ : ∃ m1, m = m1 + 1 := ⟨m - 1, by omega⟩
  obtain ⟨m2, hm2⟩ : ∃ m2, m1 = m2 + 1 := ⟨m1 - 1, by omega⟩
  rw [show m - 1 = m1 by omega] at hlz hcb hlx hP2
  obtain ⟨P, hP⟩ : ∃ P, y * 2 ^ s = P := ⟨_, rfl⟩
  obtain ⟨X2, hX2e⟩ : ∃ X2, x * 2 ^ s = X2 := ⟨_, rfl⟩
  rw [hP] at hL1 hP1 hP2 hX2
  rw [hX2e] at hL2 hX1 hX2
  have HP := hid hP
  have HX2 := hid hX2e
  have HX1 := hid hX1
  have HXK := hid hX2
  have HP1 := hid hP1
  have HP2 := hid hP2
  have HL1 := hid hL1
  have HL2 := hid hL2
  have HLZ := hid hlz
  have HCB := hid hcb
  have Hy0 := hid hy0
  have d1 : decide (ordZ x y < 0) = false := by
    unfold ordZ
    rw [if_neg (by omega)]
    split <;> simp
  have d2 : ((m : Int) == 1) = false := by simp; omega
  have em1 : IntKind.i64.wrap ((m : Int) - 1) = (m1 : Nat) := by rw [IntWalk.i64_in _ (by omega)]; omega
  have b1 : (m1 : Int) < (m : Nat) := by omega
  have b2 : m1 < m := by omega
  have Hm1 := hid hm1
  have Hm2 := hid hm2
  clear hL1 hL2 hlz hP hX2e hX1 hX2 hP1 hP2 hcb ha hb hxy hy0 hm1 hm2
  generalize limb y m1 = top at *
  go_enter Try.func34, Try.ntmps34
  go_wp2_with (first | (go_at_call 36; (with_reducible refine (HC.out _ (by repeat (first | assumption | (with_reducible apply Up.of) | (with_reducible exact Below.refl _ _) | (with_reducible exact Up.refl _) | ((with_reducible apply bl_setRow); (focus (first | exact Nat.le_refl _ | (simp; done) | (simp; omega) | omega))) | (with_reducible apply below_drewN) | (with_reducible apply Below.drew) | ((with_reducible apply bl_alloc); (focus (first | exact Nat.le_refl _ | (simp; done) | (simp; omega) | omega))) | ((with_reducible apply bl_setCell); (focus (first | exact Nat.le_refl _ | (simp; done) | (simp; omega) | omega))) | ((with_reducible apply up_tr); assumption)))).mono ?_); rintro e wC ⟨rfl, huC⟩; have hct := HCB.out _ huC) | (go_at_call 51; (with_reducible refine (HLZ.out _).mono ?_); rintro e wC ⟨rfl, rfl⟩) | (go_at_call 37; (first | ((with_reducible refine (HL1.out _ (by repeat (first | assumption | (with_reducible apply Up.of) | (with_reducible exact Below.refl _ _) | (with_reducible exact Up.refl _) | ((with_reducible apply bl_setRow); (focus (first | exact Nat.le_refl _ | (simp; done) | (simp; omega) | omega))) | (with_reducible apply below_drewN) | (with_reducible apply Below.drew) | ((with_reducible apply bl_alloc); (focus (first | exact Nat.le_refl _ | (simp; done) | (simp; omega) | omega))) | ((with_reducible apply bl_setCell); (focus (first | exact Nat.le_refl _ | (simp; done) | (simp; omega) | omega))) | ((with_reducible apply up_tr); assumption)))).mono ?_); rintro e wV ⟨huV, v, rfl, V, rfl, hV, gV⟩) | ((with_reducible refine (HL2.out _ (by repeat (first | assumption | (with_reducible apply Up.of) | (with_reducible exact Below.refl _ _) | (with_reducible exact Up.refl _) | ((with_reducible apply bl_setRow); (focus (first | exact Nat.le_refl _ | (simp; done) | (simp; omega) | omega))) | (with_reducible apply below_drewN) | (with_reducible apply Below.drew) | ((with_reducible apply bl_alloc); (focus (first | exact Nat.le_refl _ | (simp; done) | (simp; omega) | omega))) | ((with_reducible apply bl_setCell); (focus (first | exact Nat.le_refl _ | (simp; done) | (simp; omega) | omega))) | ((with_reducible apply up_tr); assumption)))).mono ?_); rintro e wU ⟨huU, u, rfl, U, rfl, hU, gU⟩))))
  have l0 := huC.size
  have l1 := gV.lt
  have l2 := gU.lt
  have gQ := (gV.up huU).congr hV
  have gP := gU.congr hU
  have gB : Below w.heap.size w wU := (by repeat (first | assumption | (with_reducible apply Up.of) | (with_reducible exact Below.refl _ _) | (with_reducible exact Up.refl _) | ((with_reducible apply bl_setRow); (focus (first | exact Nat.le_refl _ | (simp; done) | (simp; omega) | omega))) | (with_reducible apply below_drewN) | (with_reducible apply Below.drew) | ((with_reducible apply bl_alloc); (focus (first | exact Nat.le_refl _ | (simp; done) | (simp; omega) | omega))) | ((with_reducible apply bl_setCell); (focus (first | exact Nat.le_refl _ | (simp; done) | (simp; omega) | omega))) | ((with_reducible apply up_tr); assumption)))
  have Hs64 := hid hs64
  clear hct hV gV hU gU huC huV huU HL1 HL2 HC HLZ HCB d1 d2 b1 b2 hlx hs64 hbb em1
  generalize wC.heap.size = q at *
  generalize wV.heap.size = p at *
  have HnX := hid hnX
  have Hmn := hid hmn
  clear hnX hmn
  have hz0 : n = L → limb X2 n = 0 := fun h => limb_nl (by rw [← HX2.out, HLn.out, h]; exact Nat.le_refl _)
  have Hz0 := hid hz0
  clear hz0 HLn
  go_loopw [12] (fun tu wr => ∃ (L : Nat), n ≤ L ∧ L ≤ n + 1 ∧ tu = .slice (some ⟨p, 0, none⟩) L (n + 1) ∧ (n = L → limb X2 n = 0) ∧ Row wr q 25 (m + 1) (limb P) ∧ Row wr p 25 (n + 1) (limb X2) ∧ Below w.heap.size w wr)
    (fun tu _ => n + 1 - slen tu)
  case atStart => exact ⟨L, HnX.out.1, HnX.out.2, rfl, Hz0.out, gQ, gP, gB⟩
  case round =>
    clear gQ gP gB l2 Hz0 HnX
    obtain ⟨L, hl1, hl2, rfl, hz0, gQ, gP, gB⟩ := hrel
    have en1 : IntKind.i64.wrap ((n : Int) + 1) = (n : Int) + 1 := IntWalk.i64_in _ (by omega)
    have lP := gP.lt
    rcases (show n = L ∨ n + 1 = L by omega) with rfl | rfl
    · have hz := hz0 rfl
      clear hz0
      go_wp2_with (first | ((with_reducible apply app0P (f := limb X2)); exact rfl; exact rfl; exact gP.up (Up.alloc _ _); simp; omega; exact hz))
      go_roundw
      case rel => exact ⟨n + 1, by omega, by omega, rfl, fun h => by omega, (gQ.up (Up.alloc _ _)).row_other _ (by omega), (gP.up (Up.alloc _ _)).setRow _, below_setRow (below_up gB (Up.alloc _ _)) (by omega) _⟩
      case measure => show n + 1 - (n + 1) < n + 1 - n; omega
    · clear hz0 hl1 hl2
      have hmn := Hmn.out
      obtain ⟨K, hK⟩ : ∃ K, n - m + 1 = K := ⟨_, rfl⟩
      have eK1 : IntKind.i64.wrap ((n : Int) - (m : Int)) = (K : Int) - 1 := by rw [IntWalk.i64_in _ (by omega)]; omega
      have eK2 : IntKind.i64.wrap (K : Int) = (K : Nat) := IntWalk.i64_in _ (by omega)
      have hxk := HXK.out
      rw [hK] at hxk
      have HXK := hid hxk
      have HK := hid hK
      clear hmn hxk hK
      go_wp2_with (first | ((with_reducible apply mkP (n := K)); exact rfl; (first | rfl | omega); (have := HK.out; omega)))
      have gT : Row (wr.alloc (.cells (cells K (fun _ => 0)) 25)) wr.heap.size 25 K (fun _ => 0) := row_newc _ _ _ rfl
      refine wp_worldD (fun wd => Row wd q 25 (m + 1) (limb P) ∧ Row wd p 25 (n + 1) (limb X2) ∧ Row wd wr.heap.size 25 K (fun _ => 0) ∧ Below w.heap.size w wd) ⟨gQ.up (Up.alloc _ _), gP.up (Up.alloc _ _), gT, below_up gB (Up.alloc _ _)⟩ (fun w0 hD => ?_)
      clear gQ gP gT gB
      obtain ⟨gQ, gP, gT, gB⟩ := hD
      generalize wr.heap.size = t at *
      have hPm : sumL (limb P) m = P := by rw [sumL_limb, Nat.mod_eq_of_lt HP1.out]
      have HPm := hid hPm
      have hP0 : 0 < P := by have := HP2.out; have := bp_pos m1; omega
      have HP0 := hid hP0
      clear hPm hP0 eK1 eK2 en1
      go_loopw [14] (fun ti wr => ∃ (k : Nat) (S T : Nat → Nat), k ≤ K ∧ ti = .int .i64 ((k : Int) - 1) ∧ (∀ j, j < n + 1 → S j < 18446744073709551616) ∧ (∀ j, j < K → T j < 18446744073709551616) ∧ (∀ j, j < k → T j = 0) ∧ X2 = sumL T K * P + sumL S (n + 1) ∧ sumL S (n + 1) < P * bp k ∧
          Row wr q 25 (m + 1) (limb P) ∧ Row wr p 25 (n + 1) S ∧ Row wr t 25 K T ∧ Below w.heap.size w wr)
        (fun ti _ => (intOf ti + 1).toNat)
      case atStart =>
        refine ⟨K, limb X2, fun _ => 0, Nat.le_refl _, rfl, fun j _ => limb_lt _ j, fun _ _ => by simp, fun _ _ => rfl, ?_, ?_, gQ, gP, gT, gB⟩
        · rw [sumL_zeros, sumL_limb, Nat.mod_eq_of_lt HX1.out]; omega
        · rw [sumL_limb, Nat.mod_eq_of_lt HX1.out]; exact HXK.out
      case round =>
        clear gQ gP gT gB
        obtain ⟨k, S, T, hk, rfl, hS, hT, hT0, hX, hR, gQ, gP, gT, gB⟩ := hrel
        have HS := hid hS
        have HT := hid hT
        have HT0 := hid hT0
        have HX := hid hX
        have HR := hid hR
        clear hS hT hT0 hX hR
        rcases Nat.eq_zero_or_pos k with hk0 | hk0
        · subst hk0
          have hE : sumL T K = x / y ∧ sumL S (n + 1) / 2 ^ s = x % y := by
            have h1 := HX.out
            have h2 := HR.out
            rw [bp_zero, Nat.mul_one] at h2
            rw [← HX2.out, ← HP.out] at h1
            rw [← HP.out] at h2
            exact long_end Hy0.out h1 h2
          have hS2 : sumL S (n + 1) = sumL S m := by
            have h2 := HR.out
            rw [bp_zero, Nat.mul_one] at h2
            have hmn := Hmn.out
            exact sum_cut (by omega) (zero_above (k := m) (Nat.lt_trans h2 HP1.out))
          rw [hS2] at hE
          have HT1 := hid (fun w' (h : Row w' t 25 K T) => trim_row t K K K T w' h (Nat.le_refl _) (Nat.le_refl _) (by have := HK.out; omega))
          have hmn := Hmn.out
          have HT2 := hid (fun w' (h : Row w' p 25 (n + 1) S) => trim_row p m (n + 1) (n + 1) S w' h (by omega) (by omega) (by omega))
          have HA2 := hid (fun w' (h : Row w' p 25 (n + 1) S) => am_row (n := m) (c := n + 1) h (by omega) (by omega) (fun i hi => HS.out i (by omega)))
          have HA1 := hid (fun w' (h : Row w' t 25 K T) => am_row (n := K) (c := K) h (Nat.le_refl _) (Nat.le_refl _) HT.out)
          have HnS := hid (nl_sum (S := S) (n := m) fun i hi => HS.out i (by omega))
          have HE := hid hE
          have bs1 : (m : Int) ≤ (n : Int) + 1 := by omega
          have hs6 := Hs64.out
          clear hE hS2 hmn
          go_wp2_with fail
          refine wp_region_upH (S := (fun wq => Row wq p 25 (n + 1) S ∧ Row wq t 25 K T ∧ Below w.heap.size w wq)) (req := (fun _ => true)) (by kernel_rfl) (fun _ _ h hu => ⟨(h.1).up hu, (h.2.1).up hu, below_up (h.2.2) hu⟩) ⟨(by (repeat (first | assumption | ((with_reducible apply row_newc); (focus (first | rfl | (simp; done)))) | ((with_reducible apply row_newz); (focus (first | rfl | (simp; done)))) | (with_reducible apply row_same) | ((with_reducible apply row_else); (focus (first | (simp; done) | (simp; omega) | omega))) | (with_reducible apply row_alloc) | (with_reducible apply row_drew) | (with_reducible apply row_drewN) | ((with_reducible apply row_up); assumption)))), (by (repeat (first | assumption | ((with_reducible apply row_newc); (focus (first | rfl | (simp; done)))) | ((with_reducible apply row_newz); (focus (first | rfl | (simp; done)))) | (with_reducible apply row_same) | ((with_reducible apply row_else); (focus (first | (simp; done) | (simp; omega) | omega))) | (with_reducible apply row_alloc) | (with_reducible apply row_drew) | (with_reducible apply row_drewN) | ((with_reducible apply row_up); assumption)))), (by repeat (first | assumption | (with_reducible apply Up.of) | (with_reducible exact Below.refl _ _) | (with_reducible exact Up.refl _) | ((with_reducible apply bl_setRow); (focus (first | exact Nat.le_refl _ | (simp; done) | (simp; omega) | omega))) | (with_reducible apply below_drewN) | (with_reducible apply Below.drew) | ((with_reducible apply bl_alloc); (focus (first | exact Nat.le_refl _ | (simp; done) | (simp; omega) | omega))) | ((with_reducible apply bl_setCell); (focus (first | exact Nat.le_refl _ | (simp; done) | (simp; omega) | omega))) | ((with_reducible apply up_tr); assumption)))⟩ (fun wS hSS hSu => ?_)
          have ⟨hS1, hS2, hSB⟩ := hSS
          clear gQ gP gT gB
          refine wpAnyU_pure (i := 0) (d := (some 238)) (v := ?_) rfl rfl (by kernel_rfl) (fun _ _ _ h => h) hSu.out (Or.inl ⟨by rfl, fun w' _ => yu_value ?_⟩) ?_
          rotate_left
          · (go_simp; (try exact rfl))
          try simp only [Act.put, pu1, pu2, pu3]
          refine wpAnyU_take (i := 1) (d := (some 239)) (v := _) rfl rfl (by kernel_rfl) (fun _ _ _ h => h) hSu.out hSS (Or.inl ⟨by rfl, fun w' hSw => yu_call ?_ (HT1.out _ hSw.2.1)⟩) ?_
          · go_simp
          try simp only [Act.put, pu1, pu2, pu3]
          refine wpAnyU_pure (i := 2) (d := (some 240)) (v := ?_) rfl rfl (by kernel_rfl) (fun _ _ _ h => h) hSu.out (Or.inl ⟨by rfl, fun w' _ => yu_value ?_⟩) ?_
          rotate_left
          · (go_simp; (try exact rfl))
          try simp only [Act.put, pu1, pu2, pu3]
          refine wpAnyU_pure (i := 3) (d := (some 241)) (v := ?_) rfl rfl (by kernel_rfl) (fun _ _ _ h => h) hSu.out (Or.inl ⟨by rfl, fun w' _ => yu_value ?_⟩) ?_
          rotate_left
          · (go_simp; (try exact rfl))
          try simp only [Act.put, pu1, pu2, pu3]
          refine wpAnyU_pure (i := 4) (d := (some 242)) (v := ?_) rfl rfl (by kernel_rfl) (fun _ _ _ h => h) hSu.out (Or.inl ⟨by rfl, fun w' _ => yu_value ?_⟩) ?_
          rotate_left
          · (go_simp; (try exact rfl))
          try simp only [Act.put, pu1, pu2, pu3]
          refine wpAnyU_take (i := 5) (d := (some 243)) (v := _) rfl rfl (by kernel_rfl) (fun _ _ _ h => h) hSu.out hSS (Or.inl ⟨by rfl, fun w' hSw => yu_call ?_ (HT2.out _ hSw.1)⟩) ?_
          · go_simp
          try simp only [Act.put, pu1, pu2, pu3]
          refine wpAnyU_pure (i := 6) (d := (some 244)) (v := ?_) rfl rfl (by kernel_rfl) (fun _ _ _ h => h) hSu.out (Or.inl ⟨by rfl, fun w' _ => yu_value ?_⟩) ?_
          rotate_left
          · (go_simp; (try exact rfl))
          try simp only [Act.put, pu1, pu2, pu3]
          refine wpAnyU_callE (i := 7) (d := (some 245)) rfl rfl (by kernel_rfl) (by rfl) hSu.out (fun w' => by go_simp) (fun w' hw' => right_am (HA2.out _ (hS1.up hw')) (by rw [HnS.out]; exact Nat.lt_of_le_of_lt (lenL_le S m) (by omega)) hs6) fun vR wR hwR hRR => ?_
          try simp only [Act.put, pu1, pu2, pu3]
          obtain ⟨a1, c1, rfl⟩ := hRR.shape
          refine wpAnyU_pure (i := 8) (d := (some 4)) (v := ?_) rfl rfl (by kernel_rfl) (fun _ _ _ h => h) hSu.out (Or.inl ⟨by rfl, fun w' _ => yu_value ?_⟩) ?_
          rotate_left
          · (go_simp; (try exact rfl))
          try simp only [Act.put, pu1, pu2, pu3]
          refine wpAnyU_pure (i := 9) (d := (some 5)) (v := ?_) rfl rfl (by kernel_rfl) (fun _ _ _ h => h) hSu.out (Or.inl ⟨by rfl, fun w' _ => yu_value ?_⟩) ?_
          rotate_left
          · (go_simp; (try exact rfl))
          try simp only [Act.put, pu1, pu2, pu3]
          refine wpAnyU_done (by kernel_rfl) (fun wF huE => ?_) _
          have gA1 := HA1.out _ ((hS2.up hwR).up huE)
          have gA2 := hRR.up huE
          have gB := below_up (below_up hSB hwR) huE
          clear hS1 hS2 hSB hSS hwR hRR huE
          go_wp2_with fail
          go_ret2
          refine ⟨gB, _, _, _, _, _, _, rfl, ?_, ?_⟩
          · rw [← HE.out.1]; exact gA1
          · rw [← HE.out.2]; exact gA2
        · obtain ⟨i, rfl⟩ : ∃ i, k = i + 1 := ⟨k - 1, by omega⟩
          rw [show ((i + 1 : Nat) : Int) - 1 = (i : Nat) by omega]
          have hmn := Hmn.out
          have hkk := HK.out
          have hm1 := Hm1.out
          have hm2 := Hm2.out
          have him : i + m < n + 1 := by omega
          have hiK : i < K := by omega
          have him1 : i + m1 < n + 1 := by omega
          have him2 : i + m2 < n + 1 := by omega
          have e1 : IntKind.i64.wrap ((i : Int) + (m : Int)) = (i : Int) + (m : Int) := IntWalk.i64_in _ (by omega)
          have e2 : IntKind.i64.wrap ((i : Int) + (m : Int) - 1) = (i : Int) + (m1 : Int) := by rw [IntWalk.i64_in _ (by omega)]; omega
          have e3 : IntKind.i64.wrap ((i : Int) + (m : Int) - 2) = (i : Int) + (m2 : Int) := by rw [IntWalk.i64_in _ (by omega)]; omega
          have e4 : IntKind.i64.wrap ((m : Int) - 1) = (m1 : Int) := by rw [IntWalk.i64_in _ (by omega)]; omega
          have e5 : IntKind.i64.wrap ((m : Int) - 2) = (m2 : Int) := by rw [IntWalk.i64_in _ (by omega)]; omega
          have f1 : ((i : Int) + (m : Int)).toNat = i + m := by omega
          have f2 : ((i : Int) + (m1 : Int)).toNat = i + m1 := by omega
          have f3 : ((i : Int) + (m2 : Int)).toNat = i + m2 := by omega
          have j1 : (i : Int) + (m : Int) < (n : Int) + 1 := by omega
          have j2 : (0 : Int) ≤ (i : Int) + (m : Int) := by omega
          have j3 : (i : Int) + (m1 : Int) < (n : Int) + 1 := by omega
          have j4 : (0 : Int) ≤ (i : Int) + (m1 : Int) := by omega
          have j5 : (i : Int) + (m2 : Int) < (n : Int) + 1 := by omega
          have j6 : (0 : Int) ≤ (i : Int) + (m2 : Int) := by omega
          have j7 : (m1 : Int) < (m : Int) := by omega
          have j8 : (m2 : Int) < (m : Int) := by omega
          have j9 : m1 < m := by omega
          have jA : m2 < m := by omega
          have HG3 := hid (fun w' => guess3_any (S (i + m)) (S (i + m1)) (S (i + m2)) (limb P m1) (limb P m2) (HS.out _ him) (HS.out _ him1) (HS.out _ him2) (limb_lt _ _) (limb_lt _ _) w')
          have c1 := gP.cell (i + m) him
          have c2 := gP.cell (i + m1) him1
          have c3 := gP.cell (i + m2) him2
          have c4 := gQ.cell m1 (by omega)
          have c5 := gQ.cell m2 (by omega)
          clear hmn hkk hm1 hm2
          go_wp2_with fail
          refine wp_region_upH (S := (fun wq => Row wq q 25 (m + 1) (limb P) ∧ Row wq p 25 (n + 1) S ∧ Row wq t 25 K T ∧ wq.cell? ⟨p, i + m, none⟩ = some (.int .u64 (S (i + m) : Nat)) ∧ wq.cell? ⟨p, i + m1, none⟩ = some (.int .u64 (S (i + m1) : Nat)) ∧ wq.cell? ⟨p, i + m2, none⟩ = some (.int .u64 (S (i + m2) : Nat)) ∧ wq.cell? ⟨q, m1, none⟩ = some (.int .u64 (limb P m1 : Nat)) ∧ wq.cell? ⟨q, m2, none⟩ = some (.int .u64 (limb P m2 : Nat)) ∧ Below w.heap.size w wq)) (req := (fun _ => true)) (by kernel_rfl) (fun _ _ h hu => ⟨(h.1).up hu, (h.2.1).up hu, (h.2.2.1).up hu, hu.cell (h.2.2.2.1), hu.cell (h.2.2.2.2.1), hu.cell (h.2.2.2.2.2.1), hu.cell (h.2.2.2.2.2.2.1), hu.cell (h.2.2.2.2.2.2.2.1), below_up (h.2.2.2.2.2.2.2.2) hu⟩) ⟨(by (repeat (first | assumption | ((with_reducible apply row_newc); (focus (first | rfl | (simp; done)))) | ((with_reducible apply row_newz); (focus (first | rfl | (simp; done)))) | (with_reducible apply row_same) | ((with_reducible apply row_else); (focus (first | (simp; done) | (simp; omega) | omega))) | (with_reducible apply row_alloc) | (with_reducible apply row_drew) | (with_reducible apply row_drewN) | ((with_reducible apply row_up); assumption)))), (by (repeat (first | assumption | ((with_reducible apply row_newc); (focus (first | rfl | (simp; done)))) | ((with_reducible apply row_newz); (focus (first | rfl | (simp; done)))) | (with_reducible apply row_same) | ((with_reducible apply row_else); (focus (first | (simp; done) | (simp; omega) | omega))) | (with_reducible apply row_alloc) | (with_reducible apply row_drew) | (with_reducible apply row_drewN) | ((with_reducible apply row_up); assumption)))), (by (repeat (first | assumption | ((with_reducible apply row_newc); (focus (first | rfl | (simp; done)))) | ((with_reducible apply row_newz); (focus (first | rfl | (simp; done)))) | (with_reducible apply row_same) | ((with_reducible apply row_else); (focus (first | (simp; done) | (simp; omega) | omega))) | (with_reducible apply row_alloc) | (with_reducible apply row_drew) | (with_reducible apply row_drewN) | ((with_reducible apply row_up); assumption)))), (by first | assumption | (apply Blk.cell; (focus (repeat (first | assumption | ((with_reducible apply blk_new); (focus (first | rfl | (simp; done)))) | (with_reducible apply blk_alloc) | (with_reducible apply blk_drew) | (with_reducible apply blk_drewN) | ((with_reducible apply blk_up); assumption) | (with_reducible apply blk_same) | ((with_reducible apply blk_else); (focus (first | (simp; done) | (simp; omega) | omega)))))); exact rfl)), (by first | assumption | (apply Blk.cell; (focus (repeat (first | assumption | ((with_reducible apply blk_new); (focus (first | rfl | (simp; done)))) | (with_reducible apply blk_alloc) | (with_reducible apply blk_drew) | (with_reducible apply blk_drewN) | ((with_reducible apply blk_up); assumption) | (with_reducible apply blk_same) | ((with_reducible apply blk_else); (focus (first | (simp; done) | (simp; omega) | omega)))))); exact rfl)), (by first | assumption | (apply Blk.cell; (focus (repeat (first | assumption | ((with_reducible apply blk_new); (focus (first | rfl | (simp; done)))) | (with_reducible apply blk_alloc) | (with_reducible apply blk_drew) | (with_reducible apply blk_drewN) | ((with_reducible apply blk_up); assumption) | (with_reducible apply blk_same) | ((with_reducible apply blk_else); (focus (first | (simp; done) | (simp; omega) | omega)))))); exact rfl)), (by first | assumption | (apply Blk.cell; (focus (repeat (first | assumption | ((with_reducible apply blk_new); (focus (first | rfl | (simp; done)))) | (with_reducible apply blk_alloc) | (with_reducible apply blk_drew) | (with_reducible apply blk_drewN) | ((with_reducible apply blk_up); assumption) | (with_reducible apply blk_same) | ((with_reducible apply blk_else); (focus (first | (simp; done) | (simp; omega) | omega)))))); exact rfl)), (by first | assumption | (apply Blk.cell; (focus (repeat (first | assumption | ((with_reducible apply blk_new); (focus (first | rfl | (simp; done)))) | (with_reducible apply blk_alloc) | (with_reducible apply blk_drew) | (with_reducible apply blk_drewN) | ((with_reducible apply blk_up); assumption) | (with_reducible apply blk_same) | ((with_reducible apply blk_else); (focus (first | (simp; done) | (simp; omega) | omega)))))); exact rfl)), (by repeat (first | assumption | (with_reducible apply Up.of) | (with_reducible exact Below.refl _ _) | (with_reducible exact Up.refl _) | ((with_reducible apply bl_setRow); (focus (first | exact Nat.le_refl _ | (simp; done) | (simp; omega) | omega))) | (with_reducible apply below_drewN) | (with_reducible apply Below.drew) | ((with_reducible apply bl_alloc); (focus (first | exact Nat.le_refl _ | (simp; done) | (simp; omega) | omega))) | ((with_reducible apply bl_setCell); (focus (first | exact Nat.le_refl _ | (simp; done) | (simp; omega) | omega))) | ((with_reducible apply up_tr); assumption)))⟩ (fun wS hSS hSu => ?_)
          have ⟨hS1, hS2, hS3, hS4, hS5, hS6, hS7, hS8, hSB⟩ := hSS
          clear gQ gP gT gB c1 c2 c3 c4 c5
          refine wpAnyU_pure (i := 0) (d := (some 98)) (v := ?_) rfl rfl (by kernel_rfl) (fun _ _ _ h => h) hSu.out (Or.inl ⟨by rfl, fun w' _ => yu_value ?_⟩) ?_
          rotate_left
          · (go_simp; (try exact rfl))
          try simp only [Act.put, pu1, pu2, pu3]
          refine wpAnyU_pure (i := 1) (d := (some 99)) (v := ?_) rfl rfl (by kernel_rfl) (fun _ _ _ h => h) hSu.out (Or.inl ⟨by rfl, fun w' _ => yu_value ?_⟩) ?_
          rotate_left
          · (go_simp; (try exact rfl))
          try simp only [Act.put, pu1, pu2, pu3]
          refine wpAnyU_pure (i := 2) (d := (some 100)) (v := ?_) rfl rfl (by kernel_rfl) (fun _ _ _ h => h) hSu.out (Or.inl ⟨by rfl, fun w' _ => yu_value ?_⟩) ?_
          rotate_left
          · (go_simp; (try exact rfl))
          try simp only [Act.put, pu1, pu2, pu3]
          refine wpAnyU_pure (i := 3) (d := (some 101)) (v := ?_) rfl rfl (by kernel_rfl) (fun _ _ _ h => h) hSu.out (Or.inl ⟨by rfl, fun w' _ => yu_value ?_⟩) ?_
          rotate_left
          · (go_simp; (try exact rfl))
          try simp only [Act.put, pu1, pu2, pu3]
          refine wpAnyU_pure (i := 4) (d := (some 102)) (v := ?_) rfl rfl (by kernel_rfl) (fun _ _ _ h => h) hSu.out (Or.inl ⟨by rfl, fun w' _ => yu_value ?_⟩) ?_
          rotate_left
          · (go_simp; (try exact rfl))
          try simp only [Act.put, pu1, pu2, pu3]
          refine wpAnyU_take (i := 5) (d := (some 103)) (v := ?_) rfl rfl (by kernel_rfl) (fun _ _ _ h => h) hSu.out hSS (Or.inl ⟨by rfl, fun w' hSw => yu_value ?_⟩) ?_
          rotate_left
          · ((try dsimp only at hSw); (try obtain ⟨_, _, _, _, _, _, _, _, _⟩ := hSw); go_simp; (try exact rfl))
          try simp only [Act.put, pu1, pu2, pu3]
          refine wpAnyU_pure (i := 6) (d := (some 104)) (v := ?_) rfl rfl (by kernel_rfl) (fun _ _ _ h => h) hSu.out (Or.inl ⟨by rfl, fun w' _ => yu_value ?_⟩) ?_
          rotate_left
          · (go_simp; (try exact rfl))
          try simp only [Act.put, pu1, pu2, pu3]
          refine wpAnyU_pure (i := 7) (d := (some 105)) (v := ?_) rfl rfl (by kernel_rfl) (fun _ _ _ h => h) hSu.out (Or.inl ⟨by rfl, fun w' _ => yu_value ?_⟩) ?_
          rotate_left
          · (go_simp; (try exact rfl))
          try simp only [Act.put, pu1, pu2, pu3]
          refine wpAnyU_pure (i := 8) (d := (some 106)) (v := ?_) rfl rfl (by kernel_rfl) (fun _ _ _ h => h) hSu.out (Or.inl ⟨by rfl, fun w' _ => yu_value ?_⟩) ?_
          rotate_left
          · (go_simp; (try exact rfl))
          try simp only [Act.put, pu1, pu2, pu3]
          refine wpAnyU_pure (i := 9) (d := (some 107)) (v := ?_) rfl rfl (by kernel_rfl) (fun _ _ _ h => h) hSu.out (Or.inl ⟨by rfl, fun w' _ => yu_value ?_⟩) ?_
          rotate_left
          · (go_simp; (try exact rfl))
          try simp only [Act.put, pu1, pu2, pu3]
          refine wpAnyU_pure (i := 10) (d := (some 108)) (v := ?_) rfl rfl (by kernel_rfl) (fun _ _ _ h => h) hSu.out (Or.inl ⟨by rfl, fun w' _ => yu_value ?_⟩) ?_
          rotate_left
          · (go_simp; (try exact rfl))
          try simp only [Act.put, pu1, pu2, pu3]
          refine wpAnyU_pure (i := 11) (d := (some 109)) (v := ?_) rfl rfl (by kernel_rfl) (fun _ _ _ h => h) hSu.out (Or.inl ⟨by rfl, fun w' _ => yu_value ?_⟩) ?_
          rotate_left
          · (go_simp; (try exact rfl))
          try simp only [Act.put, pu1, pu2, pu3]
          refine wpAnyU_take (i := 12) (d := (some 110)) (v := ?_) rfl rfl (by kernel_rfl) (fun _ _ _ h => h) hSu.out hSS (Or.inl ⟨by rfl, fun w' hSw => yu_value ?_⟩) ?_
          rotate_left
          · ((try dsimp only at hSw); (try obtain ⟨_, _, _, _, _, _, _, _, _⟩ := hSw); go_simp; (try exact rfl))
          try simp only [Act.put, pu1, pu2, pu3]
          refine wpAnyU_pure (i := 13) (d := (some 111)) (v := ?_) rfl rfl (by kernel_rfl) (fun _ _ _ h => h) hSu.out (Or.inl ⟨by rfl, fun w' _ => yu_value ?_⟩) ?_
          rotate_left
          · (go_simp; (try exact rfl))
          try simp only [Act.put, pu1, pu2, pu3]
          refine wpAnyU_pure (i := 14) (d := (some 112)) (v := ?_) rfl rfl (by kernel_rfl) (fun _ _ _ h => h) hSu.out (Or.inl ⟨by rfl, fun w' _ => yu_value ?_⟩) ?_
          rotate_left
          · (go_simp; (try exact rfl))
          try simp only [Act.put, pu1, pu2, pu3]
          refine wpAnyU_pure (i := 15) (d := (some 113)) (v := ?_) rfl rfl (by kernel_rfl) (fun _ _ _ h => h) hSu.out (Or.inl ⟨by rfl, fun w' _ => yu_value ?_⟩) ?_
          rotate_left
          · (go_simp; (try exact rfl))
          try simp only [Act.put, pu1, pu2, pu3]
          refine wpAnyU_pure (i := 16) (d := (some 114)) (v := ?_) rfl rfl (by kernel_rfl) (fun _ _ _ h => h) hSu.out (Or.inl ⟨by rfl, fun w' _ => yu_value ?_⟩) ?_
          rotate_left
          · (go_simp; (try exact rfl))
          try simp only [Act.put, pu1, pu2, pu3]
          refine wpAnyU_pure (i := 17) (d := (some 115)) (v := ?_) rfl rfl (by kernel_rfl) (fun _ _ _ h => h) hSu.out (Or.inl ⟨by rfl, fun w' _ => yu_value ?_⟩) ?_
          rotate_left
          · (go_simp; (try exact rfl))
          try simp only [Act.put, pu1, pu2, pu3]
          refine wpAnyU_pure (i := 18) (d := (some 116)) (v := ?_) rfl rfl (by kernel_rfl) (fun _ _ _ h => h) hSu.out (Or.inl ⟨by rfl, fun w' _ => yu_value ?_⟩) ?_
          rotate_left
          · (go_simp; (try exact rfl))
          try simp only [Act.put, pu1, pu2, pu3]
          refine wpAnyU_take (i := 19) (d := (some 117)) (v := ?_) rfl rfl (by kernel_rfl) (fun _ _ _ h => h) hSu.out hSS (Or.inl ⟨by rfl, fun w' hSw => yu_value ?_⟩) ?_
          rotate_left
          · ((try dsimp only at hSw); (try obtain ⟨_, _, _, _, _, _, _, _, _⟩ := hSw); go_simp; (try exact rfl))
          try simp only [Act.put, pu1, pu2, pu3]
          refine wpAnyU_pure (i := 20) (d := (some 118)) (v := ?_) rfl rfl (by kernel_rfl) (fun _ _ _ h => h) hSu.out (Or.inl ⟨by rfl, fun w' _ => yu_value ?_⟩) ?_
          rotate_left
          · (go_simp; (try exact rfl))
          try simp only [Act.put, pu1, pu2, pu3]
          refine wpAnyU_pure (i := 21) (d := (some 119)) (v := ?_) rfl rfl (by kernel_rfl) (fun _ _ _ h => h) hSu.out (Or.inl ⟨by rfl, fun w' _ => yu_value ?_⟩) ?_
          rotate_left
          · (go_simp; (try exact rfl))
          try simp only [Act.put, pu1, pu2, pu3]
          refine wpAnyU_pure (i := 22) (d := (some 120)) (v := ?_) rfl rfl (by kernel_rfl) (fun _ _ _ h => h) hSu.out (Or.inl ⟨by rfl, fun w' _ => yu_value ?_⟩) ?_
          rotate_left
          · (go_simp; (try exact rfl))
          try simp only [Act.put, pu1, pu2, pu3]
          refine wpAnyU_pure (i := 23) (d := (some 121)) (v := ?_) rfl rfl (by kernel_rfl) (fun _ _ _ h => h) hSu.out (Or.inl ⟨by rfl, fun w' _ => yu_value ?_⟩) ?_
          rotate_left
          · (go_simp; (try exact rfl))
          try simp only [Act.put, pu1, pu2, pu3]
          refine wpAnyU_take (i := 24) (d := (some 122)) (v := ?_) rfl rfl (by kernel_rfl) (fun _ _ _ h => h) hSu.out hSS (Or.inl ⟨by rfl, fun w' hSw => yu_value ?_⟩) ?_
          rotate_left
          · ((try dsimp only at hSw); (try obtain ⟨_, _, _, _, _, _, _, _, _⟩ := hSw); go_simp; (try exact rfl))
          try simp only [Act.put, pu1, pu2, pu3]
          refine wpAnyU_pure (i := 25) (d := (some 123)) (v := ?_) rfl rfl (by kernel_rfl) (fun _ _ _ h => h) hSu.out (Or.inl ⟨by rfl, fun w' _ => yu_value ?_⟩) ?_
          rotate_left
          · (go_simp; (try exact rfl))
          try simp only [Act.put, pu1, pu2, pu3]
          refine wpAnyU_pure (i := 26) (d := (some 124)) (v := ?_) rfl rfl (by kernel_rfl) (fun _ _ _ h => h) hSu.out (Or.inl ⟨by rfl, fun w' _ => yu_value ?_⟩) ?_
          rotate_left
          · (go_simp; (try exact rfl))
          try simp only [Act.put, pu1, pu2, pu3]
          refine wpAnyU_pure (i := 27) (d := (some 125)) (v := ?_) rfl rfl (by kernel_rfl) (fun _ _ _ h => h) hSu.out (Or.inl ⟨by rfl, fun w' _ => yu_value ?_⟩) ?_
          rotate_left
          · (go_simp; (try exact rfl))
          try simp only [Act.put, pu1, pu2, pu3]
          refine wpAnyU_pure (i := 28) (d := (some 126)) (v := ?_) rfl rfl (by kernel_rfl) (fun _ _ _ h => h) hSu.out (Or.inl ⟨by rfl, fun w' _ => yu_value ?_⟩) ?_
          rotate_left
          · (go_simp; (try exact rfl))
          try simp only [Act.put, pu1, pu2, pu3]
          refine wpAnyU_take (i := 29) (d := (some 127)) (v := ?_) rfl rfl (by kernel_rfl) (fun _ _ _ h => h) hSu.out hSS (Or.inl ⟨by rfl, fun w' hSw => yu_value ?_⟩) ?_
          rotate_left
          · ((try dsimp only at hSw); (try obtain ⟨_, _, _, _, _, _, _, _, _⟩ := hSw); go_simp; (try exact rfl))
          try simp only [Act.put, pu1, pu2, pu3]
          refine wpAnyU_callE (i := 30) (d := (some 128)) rfl rfl (by kernel_rfl) (by rfl) hSu.out (fun w' => by go_simp) (fun w' hw' => (HG3.out _)) fun vG wG hwG hRG => ?_
          try simp only [Act.put, pu1, pu2, pu3]
          obtain ⟨g, rfl, hgl, hG⟩ := hRG
          refine wpAnyU_pure (i := 31) (d := (some 15)) (v := ?_) rfl rfl (by kernel_rfl) (fun _ _ _ h => h) hSu.out (Or.inl ⟨by rfl, fun w' _ => yu_value ?_⟩) ?_
          rotate_left
          · (go_simp; (try exact rfl))
          try simp only [Act.put, pu1, pu2, pu3]
          refine wpAnyU_done (by kernel_rfl) (fun wF huE => ?_) _
          have gQ := (hS1.up hwG).up huE
          have gP := (hS2.up hwG).up huE
          have gT := (hS3.up hwG).up huE
          have gB := below_up (below_up hSB hwG) huE
          have Hgl := hid hgl
          have HG := hid hG
          clear hS1 hS2 hS3 hS4 hS5 hS6 hS7 hS8 hSB hSS hwG huE hgl hG HG3 e2 e3 e4 e5 f2 f3 j3 j4 j5 j6 j7 j8
          go_wp2_with fail
          obtain ⟨W, hW⟩ : ∃ W, sumL (fun j => S (i + j)) (m + 1) = W := ⟨_, rfl⟩
          have HW := hid hW
          have hq0 : W / P ≤ g := over_guess Hm1.out Hm2.out him HS.out HPm.out HP0.out HR.out hW HG.out
          have Hq0 := hid hq0
          clear hW hq0 HG
          go_loopw [16, 17, 18] (fun tc tb ti wr => ∃ (k c b : Nat) (S1 : Nat → Nat), k ≤ m ∧ tc = .int .u64 (c : Nat) ∧ tb = .int .u64 (b : Nat) ∧ ti = .int .i64 (k : Nat) ∧ c < 18446744073709551616 ∧ b ≤ 1 ∧
              sumL (fun j => S1 (i + j)) k + g * sumL (limb P) k = sumL (fun j => S (i + j)) k + (b + c) * bp k ∧ (∀ j, j < i ∨ i + k ≤ j → S1 j = S j) ∧ (∀ j, j < n + 1 → S1 j < 18446744073709551616) ∧
              Row wr q 25 (m + 1) (limb P) ∧ Row wr p 25 (n + 1) S1 ∧ Row wr t 25 K T ∧ Below w.heap.size w wr)
            (fun _ _ ti _ => m - (intOf ti).toNat)
          case atStart => exact ⟨0, 0, 0, S, by omega, rfl, rfl, rfl, by omega, by omega, by simp [sumL_zero], fun _ _ => rfl, HS.out, gQ, gP, gT, gB⟩
          case round =>
            clear gQ gP gT gB
            obtain ⟨k, c, b, S1, hk2, rfl, rfl, rfl, hc, hb, hsum, ho, hl, gQ, gP, gT, gB⟩ := hrel
            have Hsum := hid hsum
            have Ho := hid ho
            have Hl := hid hl
            clear hsum ho hl
            have hgl := Hgl.out
            by_cases hlt : k < m
            · have hVk := limb_lt P k
              have hik : i + k < n + 1 := by omega
              have e2 : IntKind.i64.wrap ((i : Int) + (k : Int)) = (i : Int) + (k : Int) := IntWalk.i64_in _ (by omega)
              have e3 : IntKind.i64.wrap ((k : Int) + 1) = (k : Int) + 1 := IntWalk.i64_in _ (by omega)
              have f2 : ((i : Int) + (k : Int)).toNat = i + k := by omega
              have j3 : (i : Int) + (k : Int) < (n : Int) + 1 := by omega
              have j4 : (0 : Int) ≤ (i : Int) + (k : Int) := by omega
              have hcy := gQ.cell k (by omega)
              have hcx := gP.cell (i + k) hik
              have hfx := gP.frozen (i + k)
              obtain ⟨h, eh⟩ : ∃ h, h = g * limb P k / 18446744073709551616 := ⟨_, rfl⟩
              obtain ⟨l, el⟩ : ∃ l, l = g * limb P k % 18446744073709551616 := ⟨_, rfl⟩
              have HM : Hid (∀ w, Calls Try.prog 53 #[.int .u64 (g : Nat), .int .u64 (limb P k : Nat)] w fun e w' => e = .returned (.tuple #[.int .u64 (h : Nat), .int .u64 (l : Nat)]) ∧ w' = w) := hid (fun w => (Try.bits_Mul64 g (limb P k) hgl hVk w).mono (by rintro e w' ⟨rfl, rfl⟩; exact ⟨by rw [eh, el], rfl⟩))
              obtain ⟨l2, c2, HA, e6, e7⟩ : ∃ r c' : Nat, (∀ w, (callFunc 28 #[.int .u64 (l : Nat), .int .u64 (c : Nat), .int .u64 0]).run Try.prog w = .ok (.value (.tuple #[.int .u64 (r : Nat), .int .u64 (c' : Nat)])) w) ∧
                r = (l + c + 0) % 18446744073709551616 ∧ c' = (l + c + 0) / 18446744073709551616 := ⟨_, _, run_add l c 0 (by omega), rfl, rfl⟩
              obtain ⟨g1, g2, g3, g4, g5, g6⟩ := mul_step hgl hVk hc eh el e6 e7
              obtain ⟨cn, ecn⟩ : ∃ cn, cn = h + c2 := ⟨_, rfl⟩
              rw [← ecn] at g1 g2
              have w1 : IntKind.u64.wrap ((h : Int) + c2) = (cn : Nat) := by rw [IntKind.wrap_u64]; omega
              have HG2 := hid g2
              clear eh el e6 e7 g2 ecn
              have hSk := Hl.out (i + k) hik
              obtain ⟨r, b', HSub, hr, hrl, hb1⟩ : ∃ r b' : Nat, (∀ w, (callFunc 54 #[.int .u64 (S1 (i + k) : Nat), .int .u64 (l2 : Nat), .int .u64 (b : Nat)]).run Try.prog w = .ok (.value (.tuple #[.int .u64 (r : Nat), .int .u64 (b' : Nat)])) w) ∧
                  Hid (r + l2 + b = S1 (i + k) + b' * 18446744073709551616) ∧ r < 18446744073709551616 ∧ b' ≤ 1 :=
                ⟨_, _, run_sub (S1 (i + k)) l2 b hb, hid (by split <;> omega), Nat.mod_lt _ (by decide), by split <;> omega⟩
              have gP1 := gP.set (i + k) r
              have gQ1 := gQ.other ⟨p, i + k, none⟩ (.int .u64 (r : Nat)) (show q ≠ p by omega)
              have gT1 := gT.other ⟨p, i + k, none⟩ (.int .u64 (r : Nat)) (show t ≠ p by omega)
              have gB1 := gB.setCell (p := ⟨p, i + k, none⟩) (show w.heap.size ≤ p by omega) (.int .u64 (r : Nat))
              go_wp2_with (first | (go_at_call 53; (with_reducible refine (HM.out _).mono ?_); rintro e wM ⟨rfl, rfl⟩))
              clear e1 f1 j1 j2 e2 e3 f2 j3 j4 w1 hcy hcx hfx HM HA HSub gQ gP gT gB
              go_roundw
              case rel =>
                refine ⟨k + 1, cn, b', upd S1 (i + k) r, by omega, rfl, rfl, by go_num, g1, hb1, ?_, fun j hj => by rw [upd_other _ _ _ (by omega)]; exact Ho.out j (by omega), upd_lt Hl.out hrl, gQ1, gP1, gT1, gB1⟩
                rw [sum_shift_upd, sumL_succ (limb P), sumL_succ (fun j => S (i + j)), bp_succ, Nat.mul_add, ← Nat.mul_assoc]
                have h2 := hr.out
                rw [Ho.out (i + k) (by omega)] at h2
                exact off_step Hsum.out HG2.out h2
              case measure => simp [intOf] <;> omega
            · obtain rfl : m = k := by omega
              clear hlt
              have hcx := gP.cell (i + m) him
              have hfx := gP.frozen (i + m)
              have hSk := Hl.out (i + m) him
              obtain ⟨r, b', HSub, hr, hrl, hb1⟩ : ∃ r b' : Nat, (∀ w, (callFunc 54 #[.int .u64 (S1 (i + m) : Nat), .int .u64 (c : Nat), .int .u64 (b : Nat)]).run Try.prog w = .ok (.value (.tuple #[.int .u64 (r : Nat), .int .u64 (b' : Nat)])) w) ∧
                  Hid (r + c + b = S1 (i + m) + b' * 18446744073709551616) ∧ r < 18446744073709551616 ∧ b' ≤ 1 :=
                ⟨_, _, run_sub (S1 (i + m)) c b hb, hid (by split <;> omega), Nat.mod_lt _ (by decide), by split <;> omega⟩
              have gP1 := gP.set (i + m) r
              have gQ1 := gQ.other ⟨p, i + m, none⟩ (.int .u64 (r : Nat)) (show q ≠ p by omega)
              have gT1 := gT.other ⟨p, i + m, none⟩ (.int .u64 (r : Nat)) (show t ≠ p by omega)
              have gB1 := gB.setCell (p := ⟨p, i + m, none⟩) (show w.heap.size ≤ p by omega) (.int .u64 (r : Nat))
              have he : sumL (fun j => upd S1 (i + m) r (i + j)) (m + 1) + g * P = W + b' * bp (m + 1) := by
                have h2 := hr.out
                rw [Ho.out (i + m) (by omega)] at h2
                have h3 := off_last Hsum.out h2
                rw [HPm.out] at h3
                have h4 := HW.out
                rw [sumL_succ] at h4
                rw [sum_shift_upd, bp_succ, ← h4]
                exact h3
              have ho : ∀ j, j < i ∨ i + m < j → upd S1 (i + m) r j = S j := fun j hj => by rw [upd_other _ _ _ (by omega)]; exact Ho.out j (by omega)
              have He := hid he
              have Ho2 := hid ho
              have Hl2 := hid (upd_lt (k := i + m) Hl.out hrl)
              clear he ho gQ gP gT gB hr Hsum Ho
              go_wp2_with fail
              clear hcx hfx HSub hSk Hl
              generalize upd S1 (i + m) r = S2 at *
              go_loopw [15, 17] (fun tg tb wr => ∃ (g b : Nat) (S1 : Nat → Nat), tg = .int .u64 (g : Nat) ∧ tb = .int .u64 (b : Nat) ∧ b ≤ 1 ∧ g < 18446744073709551616 ∧ W / P ≤ g ∧ sumL (fun j => S1 (i + j)) (m + 1) + g * P = W + b * bp (m + 1) ∧ (∀ j, j < i ∨ i + m < j → S1 j = S j) ∧ (∀ j, j < n + 1 → S1 j < 18446744073709551616) ∧
                  Row wr q 25 (m + 1) (limb P) ∧ Row wr p 25 (n + 1) S1 ∧ Row wr t 25 K T ∧ Below w.heap.size w wr)
                (fun tg _ _ => (intOf tg).toNat)
              case atStart => exact ⟨g, b', S2, rfl, rfl, hb1, Hgl.out, Hq0.out, He.out, Ho2.out, Hl2.out, gQ1, gP1, gT1, gB1⟩
              case round =>
                clear gQ1 gP1 gT1 gB1 He Ho2 Hl2 Hgl hgl Hq0 hb1 hrl
                obtain ⟨g, b, S1, rfl, rfl, hb, hgl, hq0, he, ho, hl, gQ, gP, gT, gB⟩ := hrel
                have He := hid he
                have Ho := hid ho
                have Hl := hid hl
                have Hq0 := hid hq0
                have Hgl := hid hgl
                clear he ho hl hq0 hgl
                rcases (show b = 0 ∨ b = 1 by omega) with rfl | rfl
                · have he := He.out
                  rw [Nat.zero_mul, Nat.add_zero] at he
                  obtain ⟨hlt, hgq⟩ := round_end he Hq0.out HP0.out
                  have hR3 : sumL S (n + 1) < bp (i + m + 1) := by
                    have h0 := HR.out
                    have h1 := HP1.out
                    have h2 : P * bp (i + 1) ≤ bp m * bp (i + 1) := Nat.mul_le_mul_right _ (Nat.le_of_lt h1)
                    rw [← bp_add, show m + (i + 1) = i + m + 1 by omega] at h2
                    exact Nat.lt_of_lt_of_le h0 h2
                  obtain ⟨hX1, hX3⟩ := over_more him hiK HS.out HX.out (HT0.out i (by omega)) hR3 HW.out rfl Ho.out he hlt
                  have HX1' := hid hX1
                  have HX3 := hid hX3
                  have e7 : IntKind.i64.wrap ((i : Int) - 1) = (i : Int) - 1 := IntWalk.i64_in _ (by omega)
                  have hi16 : (i : Int) < (K : Int) := by omega
                  have hct := gT.cell i hiK
                  have hft := gT.frozen i
                  have gT1 := gT.set i g
                  have gP1 := gP.other ⟨t, i, none⟩ (.int .u64 (g : Nat)) (show p ≠ t by omega)
                  have gQ1 := gQ.other ⟨t, i, none⟩ (.int .u64 (g : Nat)) (show q ≠ t by omega)
                  have gB1 := gB.setCell (p := ⟨t, i, none⟩) (show w.heap.size ≤ t by omega) (.int .u64 (g : Nat))
                  clear he hlt hgq hR3 hX1 hX3 gQ gP gT gB
                  go_wp2_with fail
                  clear e1 f1 j1 j2 e7 hi16 hct hft
                  go_roundw
                  case rel => exact ⟨i, S1, upd T i g, by omega, rfl, Hl.out, upd_lt HT.out Hgl.out, fun j hj => by rw [upd_other _ _ _ (by omega)]; exact HT0.out j (by omega), HX1'.out, HX3.out, gQ1, gP1, gT1, gB1⟩
                  case measure => simp [intOf] <;> omega
                · rw [show ((1 : Nat) : Int) = (1 : Int) from rfl]
                  have he := He.out
                  rw [Nat.one_mul] at he
                  have hW1 := sumL_lt (f := fun j => S1 (i + j)) (k := m + 1) fun j hj => Hl.out _ (by omega)
                  obtain ⟨hg1, hq1⟩ := round_more he hW1 HP0.out
                  obtain ⟨G, hG⟩ : ∃ G, g - 1 = G := ⟨_, rfl⟩
                  rw [hG] at hq1
                  have HGg := hid hG
                  have HGq := hid hq1
                  have HG1 := hid hg1
                  have hgl := Hgl.out
                  have eg : IntKind.u64.wrap ((g : Int) - 1) = (G : Nat) := by rw [IntKind.wrap_u64]; omega
                  have Hhe := hid he
                  clear he hW1 hg1 hq1 hG hgl He
                  go_wp2_with fail
                  clear eg
                  go_loopw [22, 23] (fun tc ti wr => ∃ (k c : Nat) (S2 : Nat → Nat), k ≤ m ∧ tc = .int .u64 (c : Nat) ∧ ti = .int .i64 (k : Nat) ∧ c ≤ 1 ∧ sumL (fun j => S2 (i + j)) k + c * bp k = sumL (fun j => S1 (i + j)) k + sumL (limb P) k ∧ (∀ j, j < i ∨ i + k ≤ j → S2 j = S1 j) ∧ (∀ j, j < n + 1 → S2 j < 18446744073709551616) ∧
                      Row wr q 25 (m + 1) (limb P) ∧ Row wr p 25 (n + 1) S2 ∧ Row wr t 25 K T ∧ Below w.heap.size w wr)
                    (fun _ ti _ => m - (intOf ti).toNat)
                  case atStart => exact ⟨0, 0, S1, by omega, rfl, rfl, by omega, by simp [sumL_zero], fun _ _ => rfl, Hl.out, gQ, gP, gT, gB⟩
                  case round =>
                    clear gQ gP gT gB
                    obtain ⟨k, c, S2, hk3, rfl, rfl, hc, hsum, ho2, hl2, gQ, gP, gT, gB⟩ := hrel
                    have Hsum := hid hsum
                    have Ho2 := hid ho2
                    have Hl2 := hid hl2
                    clear hsum ho2 hl2
                    by_cases hlt : k < m
                    · have hik : i + k < n + 1 := by omega
                      have e2 : IntKind.i64.wrap ((i : Int) + (k : Int)) = (i : Int) + (k : Int) := IntWalk.i64_in _ (by omega)
                      have e3 : IntKind.i64.wrap ((k : Int) + 1) = (k : Int) + 1 := IntWalk.i64_in _ (by omega)
                      have f2 : ((i : Int) + (k : Int)).toNat = i + k := by omega
                      have j3 : (i : Int) + (k : Int) < (n : Int) + 1 := by omega
                      have j4 : (0 : Int) ≤ (i : Int) + (k : Int) := by omega
                      have j5 : (k : Int) < (m : Int) := by omega
                      have hcy := gQ.cell k (by omega)
                      have hcx := gP.cell (i + k) hik
                      obtain ⟨r, c', hadd, hr, hrl, hc1⟩ : ∃ r c' : Nat, (∀ w, (callFunc 28 #[.int .u64 (S2 (i + k) : Nat), .int .u64 (limb P k : Nat), .int .u64 (c : Nat)]).run Try.prog w = .ok (.value (.tuple #[.int .u64 (r : Nat), .int .u64 (c' : Nat)])) w) ∧
                          Hid (r + c' * 18446744073709551616 = S2 (i + k) + limb P k + c) ∧ r < 18446744073709551616 ∧ c' ≤ 1 :=
                        ⟨_, _, run_add (S2 (i + k)) (limb P k) c hc, hid (by omega), Nat.mod_lt _ (by decide), by have := Hl2.out (i + k) hik; have := limb_lt P k; omega⟩
                      go_wp2_with fail
                      refine wp_region_upH (S := (fun wq => Row wq q 25 (m + 1) (limb P) ∧ Row wq p 25 (n + 1) S2 ∧ Row wq t 25 K T ∧ wq.cell? ⟨p, i + k, none⟩ = some (.int .u64 (S2 (i + k) : Nat)) ∧ wq.cell? ⟨q, k, none⟩ = some (.int .u64 (limb P k : Nat)) ∧ Below w.heap.size w wq)) (req := (fun j => j != 20)) (by kernel_rfl) (fun _ _ h hu => ⟨(h.1).up hu, (h.2.1).up hu, (h.2.2.1).up hu, hu.cell (h.2.2.2.1), hu.cell (h.2.2.2.2.1), below_up (h.2.2.2.2.2) hu⟩) ⟨(by (repeat (first | assumption | ((with_reducible apply row_newc); (focus (first | rfl | (simp; done)))) | ((with_reducible apply row_newz); (focus (first | rfl | (simp; done)))) | (with_reducible apply row_same) | ((with_reducible apply row_else); (focus (first | (simp; done) | (simp; omega) | omega))) | (with_reducible apply row_alloc) | (with_reducible apply row_drew) | (with_reducible apply row_drewN) | ((with_reducible apply row_up); assumption)))), (by (repeat (first | assumption | ((with_reducible apply row_newc); (focus (first | rfl | (simp; done)))) | ((with_reducible apply row_newz); (focus (first | rfl | (simp; done)))) | (with_reducible apply row_same) | ((with_reducible apply row_else); (focus (first | (simp; done) | (simp; omega) | omega))) | (with_reducible apply row_alloc) | (with_reducible apply row_drew) | (with_reducible apply row_drewN) | ((with_reducible apply row_up); assumption)))), (by (repeat (first | assumption | ((with_reducible apply row_newc); (focus (first | rfl | (simp; done)))) | ((with_reducible apply row_newz); (focus (first | rfl | (simp; done)))) | (with_reducible apply row_same) | ((with_reducible apply row_else); (focus (first | (simp; done) | (simp; omega) | omega))) | (with_reducible apply row_alloc) | (with_reducible apply row_drew) | (with_reducible apply row_drewN) | ((with_reducible apply row_up); assumption)))), (by first | assumption | (apply Blk.cell; (focus (repeat (first | assumption | ((with_reducible apply blk_new); (focus (first | rfl | (simp; done)))) | (with_reducible apply blk_alloc) | (with_reducible apply blk_drew) | (with_reducible apply blk_drewN) | ((with_reducible apply blk_up); assumption) | (with_reducible apply blk_same) | ((with_reducible apply blk_else); (focus (first | (simp; done) | (simp; omega) | omega)))))); exact rfl)), (by first | assumption | (apply Blk.cell; (focus (repeat (first | assumption | ((with_reducible apply blk_new); (focus (first | rfl | (simp; done)))) | (with_reducible apply blk_alloc) | (with_reducible apply blk_drew) | (with_reducible apply blk_drewN) | ((with_reducible apply blk_up); assumption) | (with_reducible apply blk_same) | ((with_reducible apply blk_else); (focus (first | (simp; done) | (simp; omega) | omega)))))); exact rfl)), (by repeat (first | assumption | (with_reducible apply Up.of) | (with_reducible exact Below.refl _ _) | (with_reducible exact Up.refl _) | ((with_reducible apply bl_setRow); (focus (first | exact Nat.le_refl _ | (simp; done) | (simp; omega) | omega))) | (with_reducible apply below_drewN) | (with_reducible apply Below.drew) | ((with_reducible apply bl_alloc); (focus (first | exact Nat.le_refl _ | (simp; done) | (simp; omega) | omega))) | ((with_reducible apply bl_setCell); (focus (first | exact Nat.le_refl _ | (simp; done) | (simp; omega) | omega))) | ((with_reducible apply up_tr); assumption)))⟩ (fun wS hSS hSu => ?_)
                      have ⟨hS1, hS2, hS3, hS4, hS5, hSB⟩ := hSS
                      clear hcx hcy gQ gP gT gB
                      refine wpAnyU_pure (i := 0) (d := (some 196)) (v := ?_) rfl rfl (by kernel_rfl) (fun _ _ _ h => h) hSu.out (Or.inl ⟨by rfl, fun w' _ => yu_value ?_⟩) ?_
                      rotate_left
                      · (go_simp; (try exact rfl))
                      try simp only [Act.put, pu1, pu2, pu3]
                      refine wpAnyU_pure (i := 1) (d := (some 197)) (v := ?_) rfl rfl (by kernel_rfl) (fun _ _ _ h => h) hSu.out (Or.inl ⟨by rfl, fun w' _ => yu_value ?_⟩) ?_
                      rotate_left
                      · (go_simp; (try exact rfl))
                      try simp only [Act.put, pu1, pu2, pu3]
                      refine wpAnyU_pure (i := 2) (d := (some 198)) (v := ?_) rfl rfl (by kernel_rfl) (fun _ _ _ h => h) hSu.out (Or.inl ⟨by rfl, fun w' _ => yu_value ?_⟩) ?_
                      rotate_left
                      · (go_simp; (try exact rfl))
                      try simp only [Act.put, pu1, pu2, pu3]
                      refine wpAnyU_pure (i := 3) (d := (some 199)) (v := ?_) rfl rfl (by kernel_rfl) (fun _ _ _ h => h) hSu.out (Or.inl ⟨by rfl, fun w' _ => yu_value ?_⟩) ?_
                      rotate_left
                      · (go_simp; (try exact rfl))
                      try simp only [Act.put, pu1, pu2, pu3]
                      refine wpAnyU_pure (i := 4) (d := (some 200)) (v := ?_) rfl rfl (by kernel_rfl) (fun _ _ _ h => h) hSu.out (Or.inl ⟨by rfl, fun w' _ => yu_value ?_⟩) ?_
                      rotate_left
                      · (go_simp; (try exact rfl))
                      try simp only [Act.put, pu1, pu2, pu3]
                      refine wpAnyU_pure (i := 5) (d := (some 201)) (v := ?_) rfl rfl (by kernel_rfl) (fun _ _ _ h => h) hSu.out (Or.inl ⟨by rfl, fun w' _ => yu_value ?_⟩) ?_
                      rotate_left
                      · (go_simp; (try exact rfl))
                      try simp only [Act.put, pu1, pu2, pu3]
                      refine wpAnyU_pure (i := 6) (d := (some 202)) (v := ?_) rfl rfl (by kernel_rfl) (fun _ _ _ h => h) hSu.out (Or.inl ⟨by rfl, fun w' _ => yu_value ?_⟩) ?_
                      rotate_left
                      · (go_simp; (try exact rfl))
                      try simp only [Act.put, pu1, pu2, pu3]
                      refine wpAnyU_pure (i := 7) (d := (some 203)) (v := ?_) rfl rfl (by kernel_rfl) (fun _ _ _ h => h) hSu.out (Or.inl ⟨by rfl, fun w' _ => yu_value ?_⟩) ?_
                      rotate_left
                      · (go_simp; (try exact rfl))
                      try simp only [Act.put, pu1, pu2, pu3]
                      refine wpAnyU_pure (i := 8) (d := (some 204)) (v := ?_) rfl rfl (by kernel_rfl) (fun _ _ _ h => h) hSu.out (Or.inl ⟨by rfl, fun w' _ => yu_value ?_⟩) ?_
                      rotate_left
                      · (go_simp; (try exact rfl))
                      try simp only [Act.put, pu1, pu2, pu3]
                      refine wpAnyU_take (i := 9) (d := (some 205)) (v := ?_) rfl rfl (by kernel_rfl) (fun _ _ _ h => h) hSu.out hSS (Or.inl ⟨by rfl, fun w' hSw => yu_value ?_⟩) ?_
                      rotate_left
                      · ((try dsimp only at hSw); (try obtain ⟨_, _, _, _, _, _⟩ := hSw); go_simp; (try exact rfl))
                      try simp only [Act.put, pu1, pu2, pu3]
                      refine wpAnyU_pure (i := 10) (d := (some 206)) (v := ?_) rfl rfl (by kernel_rfl) (fun _ _ _ h => h) hSu.out (Or.inl ⟨by rfl, fun w' _ => yu_value ?_⟩) ?_
                      rotate_left
                      · (go_simp; (try exact rfl))
                      try simp only [Act.put, pu1, pu2, pu3]
                      refine wpAnyU_pure (i := 11) (d := (some 207)) (v := ?_) rfl rfl (by kernel_rfl) (fun _ _ _ h => h) hSu.out (Or.inl ⟨by rfl, fun w' _ => yu_value ?_⟩) ?_
                      rotate_left
                      · (go_simp; (try exact rfl))
                      try simp only [Act.put, pu1, pu2, pu3]
                      refine wpAnyU_pure (i := 12) (d := (some 208)) (v := ?_) rfl rfl (by kernel_rfl) (fun _ _ _ h => h) hSu.out (Or.inl ⟨by rfl, fun w' _ => yu_value ?_⟩) ?_
                      rotate_left
                      · (go_simp; (try exact rfl))
                      try simp only [Act.put, pu1, pu2, pu3]
                      refine wpAnyU_take (i := 13) (d := (some 209)) (v := ?_) rfl rfl (by kernel_rfl) (fun _ _ _ h => h) hSu.out hSS (Or.inl ⟨by rfl, fun w' hSw => yu_value ?_⟩) ?_
                      rotate_left
                      · ((try dsimp only at hSw); (try obtain ⟨_, _, _, _, _, _⟩ := hSw); go_simp; (try exact rfl))
                      try simp only [Act.put, pu1, pu2, pu3]
                      refine wpAnyU_pure (i := 14) (d := (some 210)) (v := ?_) rfl rfl (by kernel_rfl) (fun _ _ _ h => h) hSu.out (Or.inl ⟨by rfl, fun w' _ => yu_value ?_⟩) ?_
                      rotate_left
                      · (go_simp; (try exact rfl))
                      try simp only [Act.put, pu1, pu2, pu3]
                      refine wpAnyU_pure (i := 15) (d := (some 211)) (v := ?_) rfl rfl (by kernel_rfl) (fun _ _ _ h => h) hSu.out (Or.inl ⟨by rfl, fun w' _ => yu_value ?_⟩) ?_
                      rotate_left
                      · (go_simp; (try exact rfl))
                      try simp only [Act.put, pu1, pu2, pu3]
                      refine wpAnyU_pure (i := 16) (d := (some 195)) (v := ?_) rfl rfl (by kernel_rfl) (fun _ _ _ h => h) hSu.out (Or.inl ⟨by rfl, fun w' _ => yu_value ?_⟩) ?_
                      rotate_left
                      · (go_simp; (try exact rfl))
                      try simp only [Act.put, pu1, pu2, pu3]
                      refine wpAnyU_pure (i := 17) (d := (some 212)) (v := ?_) rfl rfl (by kernel_rfl) (fun _ _ _ h => h) hSu.out (Or.inl ⟨by rfl, fun w' _ => yu_value ?_⟩) ?_
                      rotate_left
                      · (go_simp; (try exact rfl))
                      try simp only [Act.put, pu1, pu2, pu3]
                      refine wpAnyU_pure (i := 18) (d := (some 213)) (v := ?_) rfl rfl (by kernel_rfl) (fun _ _ _ h => h) hSu.out (Or.inl ⟨by rfl, fun w' _ => yu_value ?_⟩) ?_
                      rotate_left
                      · (go_simp; (try exact rfl))
                      try simp only [Act.put, pu1, pu2, pu3]
                      refine wpAnyU_pure (i := 19) (d := (some 214)) (v := ?_) rfl rfl (by kernel_rfl) (fun _ _ _ h => h) hSu.out (Or.inl ⟨by rfl, fun w' _ => yu_value ?_⟩) ?_
                      rotate_left
                      · (go_simp; (try exact rfl))
                      try simp only [Act.put, pu1, pu2, pu3]
                      refine wpAnyU_one (i := 20) rfl (by kernel_rfl) (by rfl) fun w1 hw1 => ?_
                      have hcW := (hS2.up hw1).cell (i+k) (by omega)
                      have hfW := (hS2.up hw1).frozen (i+k)
                      go_simp
                      clear hcW hfW
                      refine wpAnyU_pure (i := 21) (d := (some 22)) (v := ?_) rfl rfl (by kernel_rfl) (fun _ _ _ h => h) hSu.out (Or.inl ⟨by rfl, fun w' _ => yu_value ?_⟩) ?_
                      rotate_left
                      · (go_simp; (try exact rfl))
                      try simp only [Act.put, pu1, pu2, pu3]
                      refine wpAnyU_done (by kernel_rfl) (fun wF huE => ?_) _
                      have gQ := ((hS1.up hw1).other ⟨p, i + k, none⟩ (.int .u64 (r : Nat)) (show q ≠ p by omega)).up huE
                      have gP := ((hS2.up hw1).set (i + k) r).up huE
                      have gT := ((hS3.up hw1).other ⟨p, i + k, none⟩ (.int .u64 (r : Nat)) (show t ≠ p by omega)).up huE
                      have gB := below_up ((below_up hSB hw1).setCell (p := ⟨p, i + k, none⟩) (show w.heap.size ≤ p by omega) (.int .u64 (r : Nat))) huE
                      clear hS1 hS2 hS3 hS4 hS5 hSB hSS hw1 huE e2 f2 j3 j4 j5 hadd
                      go_wp2_with fail
                      clear e3 e1 f1 j1 j2
                      go_roundw
                      case rel =>
                        refine ⟨k + 1, c', upd S2 (i + k) r, by omega, rfl, by go_num, hc1, ?_, fun j hj => by rw [upd_other _ _ _ (by omega)]; exact Ho2.out j (by omega), upd_lt Hl2.out hrl, gQ, gP, gT, gB⟩
                        rw [sum_shift_upd, sumL_succ (limb P), sumL_succ (fun j => S1 (i + j)), bp_succ]
                        have h2 := hr.out
                        rw [Ho2.out (i + k) (by omega)] at h2
                        exact back_step Hsum.out h2
                      case measure => simp [intOf] <;> omega
                    · obtain rfl : m = k := by omega
                      clear hlt
                      have hcx := gP.cell (i + m) him
                      have hfx := gP.frozen (i + m)
                      obtain ⟨r, c', hadd, hr, hrl, hc1⟩ : ∃ r c' : Nat, (∀ w, (callFunc 28 #[.int .u64 (S2 (i + m) : Nat), .int .u64 0, .int .u64 (c : Nat)]).run Try.prog w = .ok (.value (.tuple #[.int .u64 (r : Nat), .int .u64 (c' : Nat)])) w) ∧
                          Hid (r + c' * 18446744073709551616 = S2 (i + m) + 0 + c) ∧ r < 18446744073709551616 ∧ c' ≤ 1 := by
                        have h := run_add (S2 (i + m)) 0 c hc
                        simp only [show ((0 : Nat) : Int) = 0 from rfl] at h
                        exact ⟨_, _, h, hid (by omega), Nat.mod_lt _ (by decide), by have := Hl2.out (i + m) him; omega⟩
                      have gP1 := gP.set (i + m) r
                      have gQ1 := gQ.other ⟨p, i + m, none⟩ (.int .u64 (r : Nat)) (show q ≠ p by omega)
                      have gT1 := gT.other ⟨p, i + m, none⟩ (.int .u64 (r : Nat)) (show t ≠ p by omega)
                      have gB1 := gB.setCell (p := ⟨p, i + m, none⟩) (show w.heap.size ≤ p by omega) (.int .u64 (r : Nat))
                      have h3 : sumL (fun j => upd S2 (i + m) r (i + j)) (m + 1) + c' * bp (m + 1) = sumL (fun j => S1 (i + j)) (m + 1) + P := by
                        have h2 := hr.out
                        rw [Ho2.out (i + m) (by omega)] at h2
                        have h4 := back_step (V := 0) Hsum.out h2
                        rw [Nat.zero_mul, Nat.add_zero, HPm.out] at h4
                        rw [sum_shift_upd, sumL_succ (fun j => S1 (i + j)), bp_succ]
                        exact h4
                      have h5 := round_next Hhe.out h3 HG1.out hc1
                      rw [HGg.out] at h5
                      obtain ⟨bn, hbn⟩ : ∃ bn, 1 - c' = bn := ⟨_, rfl⟩
                      rw [hbn] at h5
                      have ec : IntKind.u64.wrap (1 - (c' : Int)) = (bn : Nat) := by rw [IntKind.wrap_u64]; omega
                      have H5 := hid h5
                      have Ho3 : Hid (∀ j, j < i ∨ i + m < j → upd S2 (i + m) r j = S j) := hid fun j hj => by rw [upd_other _ _ _ (by omega), Ho2.out j (by omega)]; exact Ho.out j hj
                      have Hl3 := hid (upd_lt (k := i + m) Hl2.out hrl)
                      have hb3 : bn ≤ 1 := by omega
                      clear h3 h5 hbn gQ gP gT gB hr Hsum
                      go_wp2_with fail
                      clear e1 f1 j1 j2 ec hcx hfx hadd
                      go_roundw
                      case rel => exact ⟨G, bn, upd S2 (i + m) r, rfl, rfl, hb3, by have := Hgl.out; have := HGg.out; omega, HGq.out, H5.out, Ho3.out, Hl3.out, gQ1, gP1, gT1, gB1⟩
                      case measure => have := HGg.out; have := HG1.out; simp [intOf] <;> omega
end Go.Proofs.Ytbogbdokllmanaa
/-
  The reference's quotients by any divisor.
-/
namespace Go.Proofs.Ytbogbdokllmanaa
open Go Go.RowKit
set_option maxRecDepth 100000

theorem over_any {x y : Nat} {va vb : Value} {w : World} (ha : Am w va x) (hb : Am w vb y) (hx : nl x < 50000) (hyn : nl y < 50000) (h0 : 0 < y) :
    Calls Try.prog 34 #[va, vb] w fun e w' => Up w w' ∧ ∃ a n c b m d, e = .returned (.tuple #[.slice a n c, .slice b m d]) ∧ Am w' (.slice a n c) (x / y) ∧ Am w' (.slice b m d) (x % y) := by
  rcases (show nl y = 1 ∨ 2 ≤ nl y by have := nl_pos h0; omega) with h1 | h2
  · exact over_am ha hb (by omega) h1
  · by_cases hlt : x < y
    · obtain ⟨a, ca, rfl, hca1, hca0⟩ := ha.open
      obtain ⟨b, cb, rfl, hcb1, hcb0⟩ := hb.open
      have HC := hid (fun w' (h : Up w w') => cmp_am (ha.up h) (hb.up h) (by omega) (by omega))
      have hA := hid ha
      have e1 : x / y = 0 := Nat.div_eq_of_lt hlt
      have e2 : x % y = x := Nat.mod_eq_of_lt hlt
      have d1 : decide (ordZ x y < 0) = true := by unfold ordZ; rw [if_pos hlt]; rfl
      rw [e1, e2]
      clear ha hb e1 e2 hca0 hcb0 h2
      go_enter Try.func34, Try.ntmps34
      go_wp2_with (first | (go_at_call 36; (with_reducible refine (HC.out _ (by repeat (first | assumption | (with_reducible apply Up.of) | (with_reducible exact Below.refl _ _) | (with_reducible exact Up.refl _) | ((with_reducible apply bl_setRow); (focus (first | exact Nat.le_refl _ | (simp; done) | (simp; omega) | omega))) | (with_reducible apply below_drewN) | (with_reducible apply Below.drew) | ((with_reducible apply bl_alloc); (focus (first | exact Nat.le_refl _ | (simp; done) | (simp; omega) | omega))) | ((with_reducible apply bl_setCell); (focus (first | exact Nat.le_refl _ | (simp; done) | (simp; omega) | omega))) | ((with_reducible apply up_tr); assumption)))).mono ?_); rintro e wC ⟨rfl, huC⟩))
      go_ret2
      exact ⟨(by repeat (first | assumption | (with_reducible apply Up.of) | (with_reducible exact Below.refl _ _) | (with_reducible exact Up.refl _) | ((with_reducible apply bl_setRow); (focus (first | exact Nat.le_refl _ | (simp; done) | (simp; omega) | omega))) | (with_reducible apply below_drewN) | (with_reducible apply Below.drew) | ((with_reducible apply bl_alloc); (focus (first | exact Nat.le_refl _ | (simp; done) | (simp; omega) | omega))) | ((with_reducible apply bl_setCell); (focus (first | exact Nat.le_refl _ | (simp; done) | (simp; omega) | omega))) | ((with_reducible apply up_tr); assumption))), _, _, _, _, _, _, rfl, am_nil _, hA.out.up huC⟩
    · exact over_long ha hb hx (by omega) h2
set_option maxHeartbeats 1000000 in
theorem div_pm2 (p q : Bool) (X Y : Nat) (a b : Option Addr) (ca cb : Nat) (w : World) (hA : Am w (.slice a (nl X) ca) X) (hB : Am w (.slice b (nl Y) cb) Y) (hx : nl X < 50000) (hyn : nl Y < 50000) (hy : 0 < Y) :
    Calls Try.prog 10 #[.agg #[.bool p, .slice a (nl X) ca], .agg #[.bool q, .slice b (nl Y) cb]] w fun e w' => Up w w' ∧ ∃ b1 a1 n1 c1 b2 a2 n2 c2, e = .returned (.tuple #[.agg #[.bool b1, .slice a1 n1 c1], .agg #[.bool b2, .slice a2 n2 c2]]) ∧ Big w' (.agg #[.bool b1, .slice a1 n1 c1]) ((pm p X).tdiv (pm q Y)) ∧ Big w' (.agg #[.bool b2, .slice a2 n2 c2]) ((pm p X).tmod (pm q Y)) := by
  rw [pm_quo, pm_rest]
  have HO := hid (fun w' (h : Up w w') => over_any (hA.up h) (hB.up h) hx hyn hy)
  clear hy hA hB
  generalize nl X = n at *
  generalize nl Y = m at *
  go_enter Try.func10, Try.ntmps10
  go_wp2_with (first | (go_at_call 34; (with_reducible refine (HO.out _ (by repeat (first | assumption | (with_reducible apply Up.of) | (with_reducible exact Below.refl _ _) | (with_reducible exact Up.refl _) | ((with_reducible apply bl_setRow); (focus (first | exact Nat.le_refl _ | (simp; done) | (simp; omega) | omega))) | (with_reducible apply below_drewN) | (with_reducible apply Below.drew) | ((with_reducible apply bl_alloc); (focus (first | exact Nat.le_refl _ | (simp; done) | (simp; omega) | omega))) | ((with_reducible apply bl_setCell); (focus (first | exact Nat.le_refl _ | (simp; done) | (simp; omega) | omega))) | ((with_reducible apply up_tr); assumption)))).mono ?_); rintro e wO ⟨huO, a1, n1, c1, a2, n2, c2, rfl, hQ, hR⟩))
  obtain ⟨a1', c1', he1⟩ := hQ.shape
  obtain ⟨rfl, rfl, rfl⟩ : a1 = a1' ∧ n1 = nl (X / Y) ∧ c1 = c1' := by simpa using he1
  obtain ⟨a2', c2', he2⟩ := hR.shape
  obtain ⟨rfl, rfl, rfl⟩ : a2 = a2' ∧ n2 = nl (X % Y) ∧ c2 = c2' := by simpa using he2
  clear he1 he2
  refine wp_region_upH (S := (fun wq => Blk wq (w.heap.size + 1 + 1) 30 #[.bool false, .slice none 0 0] ∧ Blk wq (w.heap.size + 1 + 1 + 1) 30 #[.bool false, .slice none 0 0] ∧ wq.cell? ⟨w.heap.size, 0, none⟩ = some (.bool p) ∧ wq.cell? ⟨w.heap.size + 1, 0, none⟩ = some (.bool q) ∧ Am wq (.slice a1 (nl (X / Y)) c1) (X / Y) ∧ Am wq (.slice a2 (nl (X % Y)) c2) (X % Y) ∧ Below w.heap.size w wq)) (req := (fun j => j != 11 && j != 12)) (by kernel_rfl) (fun _ _ h hu => ⟨(h.1).up hu, (h.2.1).up hu, hu.cell (h.2.2.1), hu.cell (h.2.2.2.1), (h.2.2.2.2.1).up hu, (h.2.2.2.2.2.1).up hu, below_up (h.2.2.2.2.2.2) hu⟩) ⟨(by (repeat (first | assumption | ((with_reducible apply blk_new); (focus (first | rfl | (simp; done)))) | (with_reducible apply blk_alloc) | (with_reducible apply blk_drew) | (with_reducible apply blk_drewN) | ((with_reducible apply blk_up); assumption) | (with_reducible apply blk_same) | ((with_reducible apply blk_else); (focus (first | (simp; done) | (simp; omega) | omega)))))), (by (repeat (first | assumption | ((with_reducible apply blk_new); (focus (first | rfl | (simp; done)))) | (with_reducible apply blk_alloc) | (with_reducible apply blk_drew) | (with_reducible apply blk_drewN) | ((with_reducible apply blk_up); assumption) | (with_reducible apply blk_same) | ((with_reducible apply blk_else); (focus (first | (simp; done) | (simp; omega) | omega)))))), (by first | assumption | (apply Blk.cell; (focus (repeat (first | assumption | ((with_reducible apply blk_new); (focus (first | rfl | (simp; done)))) | (with_reducible apply blk_alloc) | (with_reducible apply blk_drew) | (with_reducible apply blk_drewN) | ((with_reducible apply blk_up); assumption) | (with_reducible apply blk_same) | ((with_reducible apply blk_else); (focus (first | (simp; done) | (simp; omega) | omega)))))); exact rfl)), (by first | assumption | (apply Blk.cell; (focus (repeat (first | assumption | ((with_reducible apply blk_new); (focus (first | rfl | (simp; done)))) | (with_reducible apply blk_alloc) | (with_reducible apply blk_drew) | (with_reducible apply blk_drewN) | ((with_reducible apply blk_up); assumption) | (with_reducible apply blk_same) | ((with_reducible apply blk_else); (focus (first | (simp; done) | (simp; omega) | omega)))))); exact rfl)), (by (repeat (first | assumption | ((with_reducible apply am_set); (focus (repeat (first | assumption | ((with_reducible apply blk_new); (focus (first | rfl | (simp; done)))) | (with_reducible apply blk_alloc) | (with_reducible apply blk_drew) | (with_reducible apply blk_drewN) | ((with_reducible apply blk_up); assumption) | (with_reducible apply blk_same) | ((with_reducible apply blk_else); (focus (first | (simp; done) | (simp; omega) | omega))))))) | (with_reducible apply am_alloc) | ((with_reducible apply am_up); assumption))); done), (by (repeat (first | assumption | ((with_reducible apply am_set); (focus (repeat (first | assumption | ((with_reducible apply blk_new); (focus (first | rfl | (simp; done)))) | (with_reducible apply blk_alloc) | (with_reducible apply blk_drew) | (with_reducible apply blk_drewN) | ((with_reducible apply blk_up); assumption) | (with_reducible apply blk_same) | ((with_reducible apply blk_else); (focus (first | (simp; done) | (simp; omega) | omega))))))) | (with_reducible apply am_alloc) | ((with_reducible apply am_up); assumption))); done), (by repeat (first | assumption | (with_reducible apply Up.of) | (with_reducible exact Below.refl _ _) | (with_reducible exact Up.refl _) | ((with_reducible apply bl_setRow); (focus (first | exact Nat.le_refl _ | (simp; done) | (simp; omega) | omega))) | (with_reducible apply below_drewN) | (with_reducible apply Below.drew) | ((with_reducible apply bl_alloc); (focus (first | exact Nat.le_refl _ | (simp; done) | (simp; omega) | omega))) | ((with_reducible apply bl_setCell); (focus (first | exact Nat.le_refl _ | (simp; done) | (simp; omega) | omega))) | ((with_reducible apply up_tr); assumption)))⟩ (fun wS hSS hSu => ?_)
  have ⟨hS1, hS2, hS3, hS4, hS5, hS6, hSB⟩ := hSS
  refine wpAnyU_pure (i := 0) (d := (some 16)) (v := ?_) rfl rfl (by kernel_rfl) (fun _ _ _ h => h) hSu.out (Or.inl ⟨by rfl, fun w' _ => yu_value ?_⟩) ?_
  rotate_left
  · (go_simp; (try exact rfl))
  try simp only [Act.put, pu1, pu2, pu3]
  refine wpAnyU_take (i := 1) (d := (some 17)) (v := ?_) rfl rfl (by kernel_rfl) (fun _ _ _ h => h) hSu.out hSS (Or.inl ⟨by rfl, fun w' hSw => yu_value ?_⟩) ?_
  rotate_left
  · ((try dsimp only at hSw); (try obtain ⟨_, _, _, _, _, _, _⟩ := hSw); go_simp; (try exact rfl))
  try simp only [Act.put, pu1, pu2, pu3]
  refine wpAnyU_pure (i := 2) (d := (some 18)) (v := ?_) rfl rfl (by kernel_rfl) (fun _ _ _ h => h) hSu.out (Or.inl ⟨by rfl, fun w' _ => yu_value ?_⟩) ?_
  rotate_left
  · (go_simp; (try exact rfl))
  try simp only [Act.put, pu1, pu2, pu3]
  refine wpAnyU_take (i := 3) (d := (some 19)) (v := ?_) rfl rfl (by kernel_rfl) (fun _ _ _ h => h) hSu.out hSS (Or.inl ⟨by rfl, fun w' hSw => yu_value ?_⟩) ?_
  rotate_left
  · ((try dsimp only at hSw); (try obtain ⟨_, _, _, _, _, _, _⟩ := hSw); go_simp; (try exact rfl))
  try simp only [Act.put, pu1, pu2, pu3]
  refine wpAnyU_pure (i := 4) (d := (some 20)) (v := ?_) rfl rfl (by kernel_rfl) (fun _ _ _ h => h) hSu.out (Or.inl ⟨by rfl, fun w' _ => yu_value ?_⟩) ?_
  rotate_left
  · (go_simp; (try exact rfl))
  try simp only [Act.put, pu1, pu2, pu3]
  refine wpAnyU_pure (i := 5) (d := (some 21)) (v := ?_) rfl rfl (by kernel_rfl) (fun _ _ _ h => h) hSu.out (Or.inl ⟨by rfl, fun w' _ => yu_value ?_⟩) ?_
  rotate_left
  · (go_simp; (try exact rfl))
  try simp only [Act.put, pu1, pu2, pu3]
  refine wpAnyU_take (i := 6) (d := (some 22)) (v := _) rfl rfl (by kernel_rfl) (fun _ _ _ h => h) hSu.out hSS (Or.inl ⟨by rfl, fun w' hSw => yu_call ?_ (made_any (!(p == q)) a1 (nl (X / Y)) c1 w')⟩) ?_
  · go_simp
  try simp only [Act.put, pu1, pu2, pu3]
  refine wpAnyU_pure (i := 7) (d := (some 23)) (v := ?_) rfl rfl (by kernel_rfl) (fun _ _ _ h => h) hSu.out (Or.inl ⟨by rfl, fun w' _ => yu_value ?_⟩) ?_
  rotate_left
  · (go_simp; (try exact rfl))
  try simp only [Act.put, pu1, pu2, pu3]
  refine wpAnyU_take (i := 8) (d := (some 24)) (v := ?_) rfl rfl (by kernel_rfl) (fun _ _ _ h => h) hSu.out hSS (Or.inl ⟨by rfl, fun w' hSw => yu_value ?_⟩) ?_
  rotate_left
  · ((try dsimp only at hSw); (try obtain ⟨_, _, _, _, _, _, _⟩ := hSw); go_simp; (try exact rfl))
  try simp only [Act.put, pu1, pu2, pu3]
  refine wpAnyU_pure (i := 9) (d := (some 25)) (v := ?_) rfl rfl (by kernel_rfl) (fun _ _ _ h => h) hSu.out (Or.inl ⟨by rfl, fun w' _ => yu_value ?_⟩) ?_
  rotate_left
  · (go_simp; (try exact rfl))
  try simp only [Act.put, pu1, pu2, pu3]
  refine wpAnyU_take (i := 10) (d := (some 26)) (v := _) rfl rfl (by kernel_rfl) (fun _ _ _ h => h) hSu.out hSS (Or.inl ⟨by rfl, fun w' hSw => yu_call ?_ (made_any p a2 (nl (X % Y)) c2 w')⟩) ?_
  · go_simp
  try simp only [Act.put, pu1, pu2, pu3]
  refine wpAnyU_one (i := 11) rfl (by kernel_rfl) (by rfl) fun w2 hw2 => ?_
  have k1 := hS1.up hw2
  refine wp_stB rfl rfl rfl rfl k1 rfl rfl (one2 _ _ _ _) ?_
  refine ⟨fun h => by simp at h, ?_⟩
  try simp only [Act.put, pu1]
  refine wpAnyU_one (i := 12) rfl (by kernel_rfl) (by rfl) fun w3 hw3 => ?_
  have k2 := ((hS2.up hw2).row_other (#[.bool (!(p == q) && decide (0 < nl (X / Y))), .slice a1 (nl (X / Y)) c1]) (show w.heap.size + 1 + 1 + 1 ≠ w.heap.size + 1 + 1 by omega)).up hw3
  refine wp_stB rfl rfl rfl rfl k2 rfl rfl (one2 _ _ _ _) ?_
  refine ⟨fun h => by simp at h, ?_⟩
  try simp only [Act.put, pu1]
  refine wpAnyU_done (by kernel_rfl) (fun wF huE => ?_) _
  have j1 := ((k1.setRow (#[.bool (!(p == q) && decide (0 < nl (X / Y))), .slice a1 (nl (X / Y)) c1])).up hw3).row_other (#[.bool (p && decide (0 < nl (X % Y))), .slice a2 (nl (X % Y)) c2]) (show w.heap.size + 1 + 1 ≠ w.heap.size + 1 + 1 + 1 by omega)
  have j2 := k2.setRow (#[.bool (p && decide (0 < nl (X % Y))), .slice a2 (nl (X % Y)) c2])
  have gQ := big_made (!(p == q)) (((((hS5.up hw2).setRow (D := (#[.bool (!(p == q) && decide (0 < nl (X / Y))), .slice a1 (nl (X / Y)) c1])) k1).up hw3).setRow (D := (#[.bool (p && decide (0 < nl (X % Y))), .slice a2 (nl (X % Y)) c2])) k2).up huE)
  have gR := big_made p (((((hS6.up hw2).setRow (D := (#[.bool (!(p == q) && decide (0 < nl (X / Y))), .slice a1 (nl (X / Y)) c1])) k1).up hw3).setRow (D := (#[.bool (p && decide (0 < nl (X % Y))), .slice a2 (nl (X % Y)) c2])) k2).up huE)
  have gB := below_up (below_setRow (below_up (below_setRow (below_up hSB hw2) (show w.heap.size ≤ w.heap.size + 1 + 1 by omega) (#[.bool (!(p == q) && decide (0 < nl (X / Y))), .slice a1 (nl (X / Y)) c1])) hw3) (show w.heap.size ≤ w.heap.size + 1 + 1 + 1 by omega) (#[.bool (p && decide (0 < nl (X % Y))), .slice a2 (nl (X % Y)) c2])) huE
  have j1' := j1.up huE
  have j2' := j2.up huE
  clear k1 k2 j1 j2 hS1 hS2 hS3 hS4 hS5 hS6 hSB hSS hw2 hw3 huE hQ hR
  go_wp2
  exact bodyPost_ret (resBB rfl rfl rfl j1' j2' rfl rfl) rfl ⟨gB, _, _, _, _, _, _, _, _, rfl, gQ, gR⟩
theorem div_big2 {x y : Int} {va vb : Value} {w : World} (ha : Big w va x) (hb : Big w vb y) (hx : nl x.natAbs < 50000) (hyn : nl y.natAbs < 50000) (hy : 0 < y.natAbs) :
    Calls Try.prog 10 #[va, vb] w fun e w' => Up w w' ∧ ∃ v, e = .returned v ∧ ∃ b1 a1 n1 c1 b2 a2 n2 c2, v = .tuple #[.agg #[.bool b1, .slice a1 n1 c1], .agg #[.bool b2, .slice a2 n2 c2]] ∧ Big w' (.agg #[.bool b1, .slice a1 n1 c1]) (x.tdiv y) ∧ Big w' (.agg #[.bool b2, .slice a2 n2 c2]) (x.tmod y) := by
  obtain ⟨a, ca, rfl, hA⟩ := ha
  obtain ⟨b, cb, rfl, hB⟩ := hb
  have h := div_pm2 (decide (x < 0)) (decide (y < 0)) x.natAbs y.natAbs a b ca cb w hA hB hx hyn hy
  rw [← pm_int, ← pm_int] at h
  refine h.mono ?_
  rintro e w' ⟨hu, b1, a1, n1, c1, b2, a2, n2, c2, rfl, h1, h2⟩
  exact ⟨hu, _, rfl, _, _, _, _, _, _, _, _, rfl, h1, h2⟩
end Go.Proofs.Ytbogbdokllmanaa
