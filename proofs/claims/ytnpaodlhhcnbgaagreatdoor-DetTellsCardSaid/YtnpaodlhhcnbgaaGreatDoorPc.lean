import Derived.Test.YtnpaodlhhcnbgaaGreatDoorPb
import Derived.Deep.DeepCutAuto
import Derived.Deep.QuietTactic
import Derived.BigQuiet
import Derived.Deep.CutBlock
import Derived.ChangeSame
import Derived.Lib.MinMax
import Derived.Laws.AppendOwnNone
namespace Go.Proofs.YtnpaodlhhcnbgaaGreatDoor
open Go Go.RowKit
set_option maxRecDepth 100000
theorem and32 (x : Nat) : x &&& 4294967295 = x % 4294967296 := Nat.and_two_pow_sub_one_eq_mod x 32
theorem div64_pre {hi lo y : Nat} (hy : y < 18446744073709551616) (hlo : lo < 18446744073709551616) (hlt : hi < y) (s : Nat) (hs : s = 64 - Lib.bitLen y) :
    s < 64 ∧ y * 2 ^ s % 18446744073709551616 = y * 2 ^ s ∧ 9223372036854775808 ≤ y * 2 ^ s ∧ y * 2 ^ s < 18446744073709551616 ∧
    (hi * 2 ^ s % 18446744073709551616 ||| lo / 2 ^ (64 - s)) < y * 2 ^ s ∧
    18446744073709551616 * (hi * 2 ^ s % 18446744073709551616 ||| lo / 2 ^ (64 - s)) + lo * 2 ^ s % 18446744073709551616 = (18446744073709551616 * hi + lo) * 2 ^ s := by
  have h0 : y ≠ 0 := by omega
  obtain ⟨b1, b2, b3, b4⟩ := bitLen_spec hy h0
  have e64 : 2 ^ s * 2 ^ (Lib.bitLen y) = (18446744073709551616 : Nat) := by rw [← Nat.pow_add, show s + Lib.bitLen y = 64 by omega]
  have e63 : 2 ^ (Lib.bitLen y - 1) * 2 ^ s = (9223372036854775808 : Nat) := by rw [← Nat.pow_add, show Lib.bitLen y - 1 + s = 63 by omega]
  have hs64 : s < 64 := by omega
  have h1 : 9223372036854775808 ≤ y * 2 ^ s := by rw [← e63]; exact Nat.mul_le_mul_right _ b2
  have h2 : y * 2 ^ s < 18446744073709551616 := by
    rw [← e64, Nat.mul_comm (2 ^ s)]
    exact Nat.mul_lt_mul_of_pos_right b3 (Nat.two_pow_pos s)
  have hps := Nat.two_pow_pos s
  have h3 : (hi + 1) * 2 ^ s ≤ y * 2 ^ s := Nat.mul_le_mul_right _ hlt
  rw [Nat.add_mul, Nat.one_mul] at h3
  have h4 : hi * 2 ^ s % 18446744073709551616 = hi * 2 ^ s := Nat.mod_eq_of_lt (by omega)
  have e2 : 2 ^ s * 2 ^ (64 - s) = (18446744073709551616 : Nat) := by rw [← Nat.pow_add, show s + (64 - s) = 64 by omega]
  have h5 : lo / 2 ^ (64 - s) < 2 ^ s := by
    rw [Nat.div_lt_iff_lt_mul (Nat.two_pow_pos _), e2]; exact hlo
  have h6 : (hi * 2 ^ s ||| lo / 2 ^ (64 - s)) = hi * 2 ^ s + lo / 2 ^ (64 - s) := by rw [Nat.mul_comm]; exact or_add h5
  refine ⟨hs64, Nat.mod_eq_of_lt h2, h1, h2, by rw [h4, h6]; omega, ?_⟩
  rw [h4, h6]
  have h7 := shr_low (x := lo) (show s ≤ 64 by omega)
  have h8 := Nat.div_add_mod (lo * 2 ^ s) 18446744073709551616
  rw [← h7, Nat.mul_add, Nat.add_mul, Nat.mul_assoc]
  generalize hi * 2 ^ s = a at *
  generalize lo * 2 ^ s = c at *
  omega
set_option maxRecDepth 100000 in
set_option maxHeartbeats 1000000 in
theorem div64_small (lo y : Nat) (hlo : lo < 18446744073709551616) (h0 : 0 < y) (w : World) :
    Calls Tryz.prog 136 #[.int .u64 (0 : Nat), .int .u64 lo, .int .u64 y] w fun e w' => e = .returned (.tuple #[.int .u64 ((lo / y : Nat) : Int), .int .u64 ((lo % y : Nat) : Int)]) ∧ Up w w' := by
  have b0 : IsP (y = 0) false := IsP.no (by omega)
  have b1 : IsP (y ≤ 0) false := IsP.no (by omega)
  have b2 : IsP (0 = 0) true := IsP.yes rfl
  go_enter Tryz.func136, Tryz.ntmps136
  go_wp2_with (first | ((with_reducible apply eqlBP (Y := 0)); exact rfl; exact rfl; exact rfl; assumption) | ((with_reducible apply leqBP (Y := 0)); exact rfl; exact rfl; exact rfl; assumption))
  refine wp_region_upS (S := (fun wq => Below w.heap.size w wq)) (req := (fun _ => true)) (by kernel_rfl) (fun _ _ h hu => below_up (h) hu) gUp (fun wS hSS => ?_)
  have hSB := hSS
  refine wpAnyU_pure (i := 0) (d := (some 28)) (v := ?_) rfl rfl (by kernel_rfl) (fun _ _ _ h => h) (fun _ _ h hu => below_up (h) hu) (Or.inl ⟨by rfl, fun w' _ => yu_value ?_⟩) ?_
  rotate_left
  · (go_simp; (try exact rfl))
  try simp only [Act.put, pu1, pu2, pu3]
  refine wpAnyU_pure (i := 1) (d := (some 29)) (v := ?_) rfl rfl (by kernel_rfl) (fun _ _ _ h => h) (fun _ _ h hu => below_up (h) hu) (Or.inl ⟨by rfl, fun w' _ => yu_value ?_⟩) ?_
  rotate_left
  · (go_simp; (try exact rfl))
  try simp only [Act.put, pu1, pu2, pu3]
  refine wpAnyU_take (i := 2) (d := (some 30)) (v := _) rfl rfl (by kernel_rfl) (fun _ _ _ h => h) (fun _ _ h hu => below_up (h) hu) hSS (Or.inl ⟨by rfl, fun w' hSw => yu_value (op_quoN rfl rfl rfl hlo h0 _)⟩) ?_
  try simp only [Act.put, pu1, pu2, pu3]
  refine wpAnyU_pure (i := 3) (d := (some 31)) (v := ?_) rfl rfl (by kernel_rfl) (fun _ _ _ h => h) (fun _ _ h hu => below_up (h) hu) (Or.inl ⟨by rfl, fun w' _ => yu_value ?_⟩) ?_
  rotate_left
  · (go_simp; (try exact rfl))
  try simp only [Act.put, pu1, pu2, pu3]
  refine wpAnyU_pure (i := 4) (d := (some 32)) (v := ?_) rfl rfl (by kernel_rfl) (fun _ _ _ h => h) (fun _ _ h hu => below_up (h) hu) (Or.inl ⟨by rfl, fun w' _ => yu_value ?_⟩) ?_
  rotate_left
  · (go_simp; (try exact rfl))
  try simp only [Act.put, pu1, pu2, pu3]
  refine wpAnyU_take (i := 5) (d := (some 33)) (v := _) rfl rfl (by kernel_rfl) (fun _ _ _ h => h) (fun _ _ h hu => below_up (h) hu) hSS (Or.inl ⟨by rfl, fun w' hSw => yu_value (op_remN rfl rfl rfl hlo h0 _)⟩) ?_
  try simp only [Act.put, pu1, pu2, pu3]
  refine wpAnyU_pure (i := 6) (d := (some 6)) (v := ?_) rfl rfl (by kernel_rfl) (fun _ _ _ h => h) (fun _ _ h hu => below_up (h) hu) (Or.inl ⟨by rfl, fun w' _ => yu_value ?_⟩) ?_
  rotate_left
  · (go_simp; (try exact rfl))
  try simp only [Act.put, pu1, pu2, pu3]
  refine wpAnyU_pure (i := 7) (d := (some 7)) (v := ?_) rfl rfl (by kernel_rfl) (fun _ _ _ h => h) (fun _ _ h hu => below_up (h) hu) (Or.inl ⟨by rfl, fun w' _ => yu_value ?_⟩) ?_
  rotate_left
  · (go_simp; (try exact rfl))
  try simp only [Act.put, pu1, pu2, pu3]
  refine wpAnyU_done (by kernel_rfl) (fun wE huE => ?_) _
  have hSB := ((fun _ _ h hu => below_up (h) hu) : ∀ w1 w2 : World, (fun wq => Below w.heap.size w wq) w1 → Up w1 w2 → (fun wq => Below w.heap.size w wq) w2) _ _ hSS huE
  clear huE hSS
  go_wp2
  go_ret2
  exact ⟨rfl, hSB⟩
set_option maxRecDepth 100000 in
set_option maxHeartbeats 2000000 in
theorem div64_great (hi lo y : Nat) (hy : y < 18446744073709551616) (hlo : lo < 18446744073709551616) (hlt : hi < y) (h0 : 0 < hi) (w : World) :
    Calls Tryz.prog 136 #[.int .u64 hi, .int .u64 lo, .int .u64 y] w fun e w' => e = .returned (.tuple #[.int .u64 (((18446744073709551616 * hi + lo) / y : Nat) : Int), .int .u64 (((18446744073709551616 * hi + lo) % y : Nat) : Int)]) ∧ Up w w' := by
  have b0 : IsP (y = 0) false := IsP.no (by omega)
  have b1 : IsP (y ≤ hi) false := IsP.no (by omega)
  have b2 : IsP (hi = 0) false := IsP.no (by omega)
  obtain ⟨s, es⟩ : ∃ s, s = 64 - Lib.bitLen y := ⟨_, rfl⟩
  obtain ⟨p1, p2, p3, p4, p5, p6⟩ := div64_pre hy hlo hlt s es
  have hbl := bitLen_spec hy (by omega)
  have hlz := fun w => Tryz.bits_LeadingZeros64 (y : Nat) w (by omega) (by omega)
  simp only [Int.toNat_natCast] at hlz
  have hcv : IntKind.u64.wrap (64 - (Lib.bitLen y : Int)) = (s : Int) := by rw [IntKind.wrap_u64]; omega
  have HLZ := hid hlz
  obtain ⟨_, _, _, hb64⟩ := hbl
  clear hlz es
  generalize Lib.bitLen y = bl at *
  -- the numbers, each under a name
  obtain ⟨V, eV⟩ : ∃ V, V = y * 2 ^ s := ⟨_, rfl⟩
  obtain ⟨L, eL⟩ : ∃ L, L = lo * 2 ^ s % 18446744073709551616 := ⟨_, rfl⟩
  obtain ⟨H, eH⟩ : ∃ H, H = hi * 2 ^ s % 18446744073709551616 := ⟨_, rfl⟩
  obtain ⟨M, eM⟩ : ∃ M, M = lo / 2 ^ (64 - s) := ⟨_, rfl⟩
  rw [← eH, ← eM] at p5 p6
  obtain ⟨U, eU⟩ : ∃ U, U = (H ||| M) := ⟨_, rfl⟩
  rw [← eV, ← eU] at p5
  rw [← eL, ← eU] at p6
  rw [← eV] at p2 p3 p4
  have hH : H < 18446744073709551616 := by rw [eH]; exact Nat.mod_lt _ (by decide)
  have hM : M < 18446744073709551616 := by rw [eM]; exact Nat.lt_of_le_of_lt (Nat.div_le_self _ _) hlo
  have hL : L < 18446744073709551616 := by rw [eL]; exact Nat.mod_lt _ (by decide)
  obtain ⟨V1, eV1⟩ : ∃ x, x = V / 2 ^ 32 := ⟨_, rfl⟩
  obtain ⟨V0, eV0⟩ : ∃ x, x = (V &&& 4294967295) := ⟨_, rfl⟩
  obtain ⟨L1, eL1⟩ : ∃ x, x = L / 2 ^ 32 := ⟨_, rfl⟩
  obtain ⟨L0, eL0⟩ : ∃ x, x = (L &&& 4294967295) := ⟨_, rfl⟩
  have HV : Hid (y * 2 ^ s % 18446744073709551616 = V) := hid (by rw [eV] at p2 ⊢; exact p2)
  have HH := hid eH.symm
  have HM := hid eM.symm
  have HU := hid eU.symm
  have HL := hid eL.symm
  have HV1 := hid eV1.symm
  have HV0 := hid eV0.symm
  have HL1 := hid eL1.symm
  have HL0 := hid eL0.symm
  have HM2 : Hid (lo / 2 ^ ((64 + 18446744073709551616 - s) % 18446744073709551616) = M) := hid (by rw [show (64 + 18446744073709551616 - s) % 18446744073709551616 = 64 - s by omega]; exact HM.out)
  rw [and32] at eV0 eL0
  have v1 : 2147483648 ≤ V1 := by omega
  have v2 : V1 < 4294967296 := by omega
  have v3 : V0 < 4294967296 := by omega
  have v4 : V = 4294967296 * V1 + V0 := by omega
  have l1 : L1 < 4294967296 := by omega
  have l0 : L0 < 4294967296 := by omega
  have l2 : L = 4294967296 * L1 + L0 := by omega
  have hU : U < 18446744073709551616 := by omega
  have HN := hid p6
  have HEV := hid eV
  have HV4 := hid v4
  have HL2 := hid l2
  have hV1p : 0 < V1 := by omega
  have hs64 : s ≤ 64 := by omega
  have hs64b : s < 18446744073709551616 := by omega
  have hs64c : (64 + 18446744073709551616 - s) % 18446744073709551616 ≤ 64 := by omega
  clear eV eL eH eM eU eV1 eV0 eL1 eL0 p6 p2 v4 l2
  obtain ⟨q0, eq0⟩ : ∃ x, x = U / V1 := ⟨_, rfl⟩
  obtain ⟨P0, eP0⟩ : ∃ x, x = q0 * V1 % 18446744073709551616 := ⟨_, rfl⟩
  have hq0 : q0 * V1 + U % V1 = U := by rw [eq0, Nat.mul_comm]; exact Nat.div_add_mod U V1
  obtain ⟨r0, er0⟩ : ∃ x, x = U % V1 := ⟨_, rfl⟩
  rw [← er0] at hq0
  have hP0 : P0 < 18446744073709551616 := by rw [eP0]; exact Nat.mod_lt _ (by decide)
  have eP0' : P0 = q0 * V1 := by rw [eP0]; exact Nat.mod_eq_of_lt (by omega)
  have HQ0 := hid eq0.symm
  have HP0 := hid eP0.symm
  have HR0 : Hid ((U + 18446744073709551616 - P0) % 18446744073709551616 = r0) := hid (by omega)
  have hun := p5
  rw [HV4.out, Nat.mul_comm] at hun
  have hst := half_start v1 v2 v3 l1 (by rw [Nat.mul_comm]; exact hun)
  rw [← eq0, ← er0] at hst
  have HST := hid hst
  have hun : U < 4294967296 * V1 + V0 := by rw [Nat.mul_comm]; exact hun
  clear eq0 eP0 hq0 er0 eP0' hst
  go_enter Tryz.func136, Tryz.ntmps136
  go_upto_block 0 with (first | ((with_reducible apply eqlBP (Y := 0)); exact rfl; exact rfl; exact rfl; (with_reducible assumption)) | ((with_reducible apply leqBP); exact rfl; exact rfl; exact rfl; (with_reducible assumption)) | (go_at_call 137; refine (HLZ.out _).mono ?_; rintro e w' ⟨rfl, rfl⟩) | ((with_reducible apply shrNP (Y := 32)); exact rfl; exact rfl; exact rfl; decide; (try rw [HV.out]); (try rw [HV1.out]); (try rw [HV0.out]); (try rw [HU.out]); (try rw [HL.out]); (try rw [HL1.out]); (try rw [HL0.out]); (try rw [HH.out]); (try rw [HM2.out]); (try rw [HQ0.out]); (try rw [HP0.out]); (try rw [HR0.out])) | ((with_reducible apply andNP (Y := 4294967295)); exact rfl; exact rfl; exact rfl; assumption; decide; (try rw [HV.out]); (try rw [HV1.out]); (try rw [HV0.out]); (try rw [HU.out]); (try rw [HL.out]); (try rw [HL1.out]); (try rw [HL0.out]); (try rw [HH.out]); (try rw [HM2.out]); (try rw [HQ0.out]); (try rw [HP0.out]); (try rw [HR0.out])) | ((with_reducible apply shlNP); exact rfl; exact rfl; exact rfl; exact hs64; (try rw [HV.out]); (try rw [HV1.out]); (try rw [HV0.out]); (try rw [HU.out]); (try rw [HL.out]); (try rw [HL1.out]); (try rw [HL0.out]); (try rw [HH.out]); (try rw [HM2.out]); (try rw [HQ0.out]); (try rw [HP0.out]); (try rw [HR0.out])) | ((with_reducible apply subNP (X := 64)); exact rfl; exact rfl; exact rfl; exact hs64b; (try rw [HV.out]); (try rw [HV1.out]); (try rw [HV0.out]); (try rw [HU.out]); (try rw [HL.out]); (try rw [HL1.out]); (try rw [HL0.out]); (try rw [HH.out]); (try rw [HM2.out]); (try rw [HQ0.out]); (try rw [HP0.out]); (try rw [HR0.out])) | ((with_reducible apply shrNP); exact rfl; exact rfl; exact rfl; exact hs64c; (try rw [HV.out]); (try rw [HV1.out]); (try rw [HV0.out]); (try rw [HU.out]); (try rw [HL.out]); (try rw [HL1.out]); (try rw [HL0.out]); (try rw [HH.out]); (try rw [HM2.out]); (try rw [HQ0.out]); (try rw [HP0.out]); (try rw [HR0.out])) | ((with_reducible apply orNP); exact rfl; exact rfl; exact rfl; assumption; assumption; (try rw [HV.out]); (try rw [HV1.out]); (try rw [HV0.out]); (try rw [HU.out]); (try rw [HL.out]); (try rw [HL1.out]); (try rw [HL0.out]); (try rw [HH.out]); (try rw [HM2.out]); (try rw [HQ0.out]); (try rw [HP0.out]); (try rw [HR0.out])) | ((with_reducible apply quoNP); exact rfl; exact rfl; exact rfl; assumption; assumption; (try rw [HV.out]); (try rw [HV1.out]); (try rw [HV0.out]); (try rw [HU.out]); (try rw [HL.out]); (try rw [HL1.out]); (try rw [HL0.out]); (try rw [HH.out]); (try rw [HM2.out]); (try rw [HQ0.out]); (try rw [HP0.out]); (try rw [HR0.out])) | ((with_reducible apply mulNP); exact rfl; exact rfl; exact rfl; (try rw [HV.out]); (try rw [HV1.out]); (try rw [HV0.out]); (try rw [HU.out]); (try rw [HL.out]); (try rw [HL1.out]); (try rw [HL0.out]); (try rw [HH.out]); (try rw [HM2.out]); (try rw [HQ0.out]); (try rw [HP0.out]); (try rw [HR0.out])) | ((with_reducible apply subNP); exact rfl; exact rfl; exact rfl; assumption; (try rw [HV.out]); (try rw [HV1.out]); (try rw [HV0.out]); (try rw [HU.out]); (try rw [HL.out]); (try rw [HL1.out]); (try rw [HL0.out]); (try rw [HH.out]); (try rw [HM2.out]); (try rw [HQ0.out]); (try rw [HP0.out]); (try rw [HR0.out])))
  go_cut [15] (fun qv wc => qv = .int .u64 ((hq U (4294967296 * V1 + V0) L1 : Nat) : Int) ∧ wc = w')
  case first =>
    go_wp2
    go_loop [15, 16] (fun qv rv => ∃ q r : Nat, qv = .int .u64 (q : Nat) ∧ rv = .int .u64 (r : Nat) ∧ Half U V1 V0 L1 q r) (fun qv _ => (intOf qv).toNat)
    case atStart => exact ⟨_, _, rfl, rfl, HST.out⟩
    case round =>
      obtain ⟨q, r, rfl, rfl, hh⟩ := hrel
      have hr := hh.lt
      have hql := hh.le
      obtain ⟨q', eq'⟩ : ∃ q', q' = q - 1 := ⟨_, rfl⟩
      obtain ⟨r', er'⟩ : ∃ r', r' = r + V1 := ⟨_, rfl⟩
      have HH := hid hh
      have HEQ := hid eq'
      have HER := hid er'
      have HR' : Hid ((r + V1) % 18446744073709551616 = r') := hid (by omega)
      by_cases hqb : 4294967296 ≤ q
      · have hc : 4294967296 ≤ q ∨ 4294967296 * r + L1 < q * V0 := .inl hqb
        have b3 : IsP (4294967296 ≤ q) true := IsP.yes hqb
        have hmore := half_more HH.out hun l1 hV1p hc
        have hq1 := hmore.1
        have HQ' : Hid ((q + 18446744073709551616 - 1) % 18446744073709551616 = q') := hid (by omega)
        have hmeas : q' < q := by omega
        by_cases hrb : 4294967296 ≤ r'
        · have hbr := half_break HH.out hun l1 hV1p v3 hc (by omega)
          have b4 : IsP (4294967296 ≤ r') true := IsP.yes hrb
          rw [← eq'] at hbr
          have HB := hid hbr
          clear hmore hc hrb hbr hh eq' er'
          go_wp2_with (first | ((with_reducible apply geqBP (Y := 4294967296)); exact rfl; exact rfl; exact rfl; (with_reducible assumption); (try simp only [Act.put, pu1, pu2, pu3])) | ((with_reducible apply gtrBP); exact rfl; exact rfl; exact rfl; (with_reducible assumption); (try simp only [Act.put, pu1, pu2, pu3])) | ((with_reducible apply mulNP (X := 4294967296)); exact rfl; exact rfl; exact rfl; rw [HRR.out]; (try simp only [Act.put, pu1, pu2, pu3])) | ((with_reducible apply mulNP); exact rfl; exact rfl; exact rfl; rw [HPV.out]; (try simp only [Act.put, pu1, pu2, pu3])) | ((with_reducible apply subNP (Y := 1)); exact rfl; exact rfl; exact rfl; decide; rw [HQ'.out]; (try simp only [Act.put, pu1, pu2, pu3])) | ((with_reducible apply addNP); exact rfl; exact rfl; exact rfl; (first | rw [HT.out] | rw [HR'.out]); (try simp only [Act.put, pu1, pu2, pu3])))
          go_meet
          case rel => exact ⟨by rw [HB.out], rfl⟩
        · have hnx := half_next HH.out hun l1 hV1p hc (by omega)
          have b4 : IsP (4294967296 ≤ r') false := IsP.no hrb
          rw [← eq', ← er'] at hnx
          have HB := hid hnx
          clear hmore hc hrb hnx hh eq' er'
          go_wp2_with (first | ((with_reducible apply geqBP (Y := 4294967296)); exact rfl; exact rfl; exact rfl; (with_reducible assumption); (try simp only [Act.put, pu1, pu2, pu3])) | ((with_reducible apply gtrBP); exact rfl; exact rfl; exact rfl; (with_reducible assumption); (try simp only [Act.put, pu1, pu2, pu3])) | ((with_reducible apply mulNP (X := 4294967296)); exact rfl; exact rfl; exact rfl; rw [HRR.out]; (try simp only [Act.put, pu1, pu2, pu3])) | ((with_reducible apply mulNP); exact rfl; exact rfl; exact rfl; rw [HPV.out]; (try simp only [Act.put, pu1, pu2, pu3])) | ((with_reducible apply subNP (Y := 1)); exact rfl; exact rfl; exact rfl; decide; rw [HQ'.out]; (try simp only [Act.put, pu1, pu2, pu3])) | ((with_reducible apply addNP); exact rfl; exact rfl; exact rfl; (first | rw [HT.out] | rw [HR'.out]); (try simp only [Act.put, pu1, pu2, pu3])))
          go_round
          case rel => exact ⟨q', r', rfl, rfl, HB.out⟩
          case measure => simp [intOf]; omega
      · have b3 : IsP (4294967296 ≤ q) false := IsP.no hqb
        have hpv : q * V0 ≤ 4294967295 * 4294967295 := Nat.mul_le_mul (by omega) (by omega)
        obtain ⟨PV, ePV⟩ : ∃ x, x = q * V0 := ⟨_, rfl⟩
        have HPV : Hid (q * V0 % 18446744073709551616 = PV) := hid (by rw [ePV]; exact Nat.mod_eq_of_lt (by omega))
        obtain ⟨RR, eRR⟩ : ∃ x, x = 4294967296 * r := ⟨_, rfl⟩
        have HRR : Hid (4294967296 * r % 18446744073709551616 = RR) := hid (by omega)
        obtain ⟨T, eT⟩ : ∃ x, x = RR + L1 := ⟨_, rfl⟩
        have HT : Hid ((RR + L1) % 18446744073709551616 = T) := hid (by omega)
        by_cases hg : T < PV
        · have hc : 4294967296 ≤ q ∨ 4294967296 * r + L1 < q * V0 := .inr (by omega)
          have b5 : IsP (T < PV) true := IsP.yes hg
          clear hpv ePV eRR eT hqb hg
          have hmore := half_more HH.out hun l1 hV1p hc
          have hq1 := hmore.1
          have HQ' : Hid ((q + 18446744073709551616 - 1) % 18446744073709551616 = q') := hid (by omega)
          have hmeas : q' < q := by omega
          by_cases hrb : 4294967296 ≤ r'
          · have hbr := half_break HH.out hun l1 hV1p v3 hc (by omega)
            have b4 : IsP (4294967296 ≤ r') true := IsP.yes hrb
            rw [← eq'] at hbr
            have HB := hid hbr
            clear hmore hc hrb hbr hh eq' er'
            go_wp2_with (first | ((with_reducible apply geqBP (Y := 4294967296)); exact rfl; exact rfl; exact rfl; (with_reducible assumption); (try simp only [Act.put, pu1, pu2, pu3])) | ((with_reducible apply gtrBP); exact rfl; exact rfl; exact rfl; (with_reducible assumption); (try simp only [Act.put, pu1, pu2, pu3])) | ((with_reducible apply mulNP (X := 4294967296)); exact rfl; exact rfl; exact rfl; rw [HRR.out]; (try simp only [Act.put, pu1, pu2, pu3])) | ((with_reducible apply mulNP); exact rfl; exact rfl; exact rfl; rw [HPV.out]; (try simp only [Act.put, pu1, pu2, pu3])) | ((with_reducible apply subNP (Y := 1)); exact rfl; exact rfl; exact rfl; decide; rw [HQ'.out]; (try simp only [Act.put, pu1, pu2, pu3])) | ((with_reducible apply addNP); exact rfl; exact rfl; exact rfl; (first | rw [HT.out] | rw [HR'.out]); (try simp only [Act.put, pu1, pu2, pu3])))
            go_meet
            case rel => exact ⟨by rw [HB.out], rfl⟩
          · have hnx := half_next HH.out hun l1 hV1p hc (by omega)
            have b4 : IsP (4294967296 ≤ r') false := IsP.no hrb
            rw [← eq', ← er'] at hnx
            have HB := hid hnx
            clear hmore hc hrb hnx hh eq' er'
            go_wp2_with (first | ((with_reducible apply geqBP (Y := 4294967296)); exact rfl; exact rfl; exact rfl; (with_reducible assumption); (try simp only [Act.put, pu1, pu2, pu3])) | ((with_reducible apply gtrBP); exact rfl; exact rfl; exact rfl; (with_reducible assumption); (try simp only [Act.put, pu1, pu2, pu3])) | ((with_reducible apply mulNP (X := 4294967296)); exact rfl; exact rfl; exact rfl; rw [HRR.out]; (try simp only [Act.put, pu1, pu2, pu3])) | ((with_reducible apply mulNP); exact rfl; exact rfl; exact rfl; rw [HPV.out]; (try simp only [Act.put, pu1, pu2, pu3])) | ((with_reducible apply subNP (Y := 1)); exact rfl; exact rfl; exact rfl; decide; rw [HQ'.out]; (try simp only [Act.put, pu1, pu2, pu3])) | ((with_reducible apply addNP); exact rfl; exact rfl; exact rfl; (first | rw [HT.out] | rw [HR'.out]); (try simp only [Act.put, pu1, pu2, pu3])))
            go_round
            case rel => exact ⟨q', r', rfl, rfl, HB.out⟩
            case measure => simp [intOf]; omega
        · have hst := half_stop HH.out hV1p (show q * V0 ≤ 4294967296 * r + L1 by omega)
          have b5 : IsP (T < PV) false := IsP.no hg
          have HB := hid hst
          clear hst hpv ePV eRR eT hqb hg hh eq' er'
          go_wp2_with (first | ((with_reducible apply geqBP (Y := 4294967296)); exact rfl; exact rfl; exact rfl; (with_reducible assumption); (try simp only [Act.put, pu1, pu2, pu3])) | ((with_reducible apply gtrBP); exact rfl; exact rfl; exact rfl; (with_reducible assumption); (try simp only [Act.put, pu1, pu2, pu3])) | ((with_reducible apply mulNP (X := 4294967296)); exact rfl; exact rfl; exact rfl; rw [HRR.out]; (try simp only [Act.put, pu1, pu2, pu3])) | ((with_reducible apply mulNP); exact rfl; exact rfl; exact rfl; rw [HPV.out]; (try simp only [Act.put, pu1, pu2, pu3])) | ((with_reducible apply subNP (Y := 1)); exact rfl; exact rfl; exact rfl; decide; rw [HQ'.out]; (try simp only [Act.put, pu1, pu2, pu3])) | ((with_reducible apply addNP); exact rfl; exact rfl; exact rfl; (first | rw [HT.out] | rw [HR'.out]); (try simp only [Act.put, pu1, pu2, pu3])))
          go_meet
          case rel => exact ⟨by rw [HB.out], rfl⟩
  case rest =>
    obtain ⟨rfl, rfl⟩ := hcut
    have hVV : 4294967296 * V1 + V0 = V := HV4.out.symm
    rw [hVV]
    clear hVV
    have hVp : 0 < V := by omega
    obtain ⟨Q1, eQ1⟩ : ∃ x, x = hq U V L1 := ⟨_, rfl⟩
    rw [← eQ1]
    obtain ⟨U2, eU2⟩ : ∃ x, x = (4294967296 * U + L1) % V := ⟨_, rfl⟩
    have hr2 := half_rest (n1 := L1) (u := U) p4 hVp
    rw [← eQ1, ← eU2, Nat.mul_comm 4294967296 U] at hr2
    have hU2V : U2 < V := by rw [eU2]; exact Nat.mod_lt _ hVp
    have hU2 : U2 < 18446744073709551616 := by omega
    obtain ⟨A1, eA1⟩ : ∃ x, x = U * 4294967296 % 18446744073709551616 := ⟨_, rfl⟩
    rw [← eA1] at hr2
    obtain ⟨A2, eA2⟩ : ∃ x, x = (A1 + L1) % 18446744073709551616 := ⟨_, rfl⟩
    rw [← eA2] at hr2
    obtain ⟨A3, eA3⟩ : ∃ x, x = Q1 * V % 18446744073709551616 := ⟨_, rfl⟩
    rw [← eA3] at hr2
    have hA3 : A3 < 18446744073709551616 := by rw [eA3]; exact Nat.mod_lt _ (by decide)
    have HA1 := hid eA1.symm
    have HA2 := hid eA2.symm
    have HA3 := hid eA3.symm
    have HU2 := hid hr2
    obtain ⟨k0, ek0⟩ : ∃ x, x = U2 / V1 := ⟨_, rfl⟩
    obtain ⟨k2, ek2⟩ : ∃ x, x = U2 % V1 := ⟨_, rfl⟩
    have hk0 : k0 * V1 + k2 = U2 := by rw [ek0, ek2, Nat.mul_comm]; exact Nat.div_add_mod U2 V1
    obtain ⟨K1, eK1⟩ : ∃ x, x = k0 * V1 % 18446744073709551616 := ⟨_, rfl⟩
    have hK1 : K1 < 18446744073709551616 := by rw [eK1]; exact Nat.mod_lt _ (by decide)
    have eK1' : K1 = k0 * V1 := by rw [eK1]; exact Nat.mod_eq_of_lt (by omega)
    have HK0 := hid ek0.symm
    have HK1 := hid eK1.symm
    have HK2 : Hid ((U2 + 18446744073709551616 - K1) % 18446744073709551616 = k2) := hid (by omega)
    have hun2' : U2 < V1 * 4294967296 + V0 := by rw [Nat.mul_comm, ← HV4.out]; exact hU2V
    have hun2 : U2 < 4294967296 * V1 + V0 := by rw [← HV4.out]; exact hU2V
    have hst2 := half_start v1 v2 v3 l0 hun2
    rw [← ek0, ← ek2] at hst2
    have HST2 := hid hst2
    have HQ1 := hid eQ1
    have HEU2 := hid eU2
    clear eQ1 eU2 hr2 eA1 eA2 eA3 ek0 ek2 hk0 eK1 eK1' hst2 hun2' hU2V
    go_upto_block 2 with (first | ((with_reducible apply mulNP (Y := 4294967296)); exact rfl; exact rfl; exact rfl; rw [HA1.out]; (try simp only [Act.put, pu1, pu2, pu3])) | ((with_reducible apply mulNP); exact rfl; exact rfl; exact rfl; (first | rw [HA3.out] | rw [HK1.out]); (try simp only [Act.put, pu1, pu2, pu3])) | ((with_reducible apply addNP); exact rfl; exact rfl; exact rfl; rw [HA2.out]; (try simp only [Act.put, pu1, pu2, pu3])) | ((with_reducible apply quoNP); exact rfl; exact rfl; exact rfl; exact hU2; exact hV1p; rw [HK0.out]; (try simp only [Act.put, pu1, pu2, pu3])) | ((with_reducible apply subNP); exact rfl; exact rfl; exact rfl; (first | exact hA3 | exact hK1); (first | rw [HU2.out] | rw [HK2.out]); (try simp only [Act.put, pu1, pu2, pu3])))
    go_cut [18] (fun qv wc2 => qv = .int .u64 ((hq U2 (4294967296 * V1 + V0) L0 : Nat) : Int) ∧ wc2 = wc)
    case first =>
      go_wp2
      go_loop [16, 18] (fun rv qv => ∃ q r : Nat, qv = .int .u64 (q : Nat) ∧ rv = .int .u64 (r : Nat) ∧ Half U2 V1 V0 L0 q r) (fun _ qv => (intOf qv).toNat)
      case atStart => exact ⟨_, _, rfl, rfl, HST2.out⟩
      case round =>
        obtain ⟨q, r, rfl, rfl, hh⟩ := hrel
        have hr := hh.lt
        have hql := hh.le
        obtain ⟨q', eq'⟩ : ∃ q', q' = q - 1 := ⟨_, rfl⟩
        obtain ⟨r', er'⟩ : ∃ r', r' = r + V1 := ⟨_, rfl⟩
        have HH := hid hh
        have HEQ := hid eq'
        have HER := hid er'
        have HR' : Hid ((r + V1) % 18446744073709551616 = r') := hid (by omega)
        by_cases hqb : 4294967296 ≤ q
        · have hc : 4294967296 ≤ q ∨ 4294967296 * r + L0 < q * V0 := .inl hqb
          have b3 : IsP (4294967296 ≤ q) true := IsP.yes hqb
          have hmore := half_more HH.out hun2 l0 hV1p hc
          have hq1 := hmore.1
          have HQ' : Hid ((q + 18446744073709551616 - 1) % 18446744073709551616 = q') := hid (by omega)
          have hmeas : q' < q := by omega
          by_cases hrb : 4294967296 ≤ r'
          · have hbr := half_break HH.out hun2 l0 hV1p v3 hc (by omega)
            have b4 : IsP (4294967296 ≤ r') true := IsP.yes hrb
            rw [← eq'] at hbr
            have HB := hid hbr
            clear hmore hc hrb hbr hh eq' er'
            go_wp2_with (first | ((with_reducible apply geqBP (Y := 4294967296)); exact rfl; exact rfl; exact rfl; (with_reducible assumption); (try simp only [Act.put, pu1, pu2, pu3])) | ((with_reducible apply gtrBP); exact rfl; exact rfl; exact rfl; (with_reducible assumption); (try simp only [Act.put, pu1, pu2, pu3])) | ((with_reducible apply mulNP (X := 4294967296)); exact rfl; exact rfl; exact rfl; rw [HRR.out]; (try simp only [Act.put, pu1, pu2, pu3])) | ((with_reducible apply mulNP); exact rfl; exact rfl; exact rfl; rw [HPV.out]; (try simp only [Act.put, pu1, pu2, pu3])) | ((with_reducible apply subNP (Y := 1)); exact rfl; exact rfl; exact rfl; decide; rw [HQ'.out]; (try simp only [Act.put, pu1, pu2, pu3])) | ((with_reducible apply addNP); exact rfl; exact rfl; exact rfl; (first | rw [HT.out] | rw [HR'.out]); (try simp only [Act.put, pu1, pu2, pu3])))
            go_meet
            case rel => exact ⟨by rw [HB.out], rfl⟩
          · have hnx := half_next HH.out hun2 l0 hV1p hc (by omega)
            have b4 : IsP (4294967296 ≤ r') false := IsP.no hrb
            rw [← eq', ← er'] at hnx
            have HB := hid hnx
            clear hmore hc hrb hnx hh eq' er'
            go_wp2_with (first | ((with_reducible apply geqBP (Y := 4294967296)); exact rfl; exact rfl; exact rfl; (with_reducible assumption); (try simp only [Act.put, pu1, pu2, pu3])) | ((with_reducible apply gtrBP); exact rfl; exact rfl; exact rfl; (with_reducible assumption); (try simp only [Act.put, pu1, pu2, pu3])) | ((with_reducible apply mulNP (X := 4294967296)); exact rfl; exact rfl; exact rfl; rw [HRR.out]; (try simp only [Act.put, pu1, pu2, pu3])) | ((with_reducible apply mulNP); exact rfl; exact rfl; exact rfl; rw [HPV.out]; (try simp only [Act.put, pu1, pu2, pu3])) | ((with_reducible apply subNP (Y := 1)); exact rfl; exact rfl; exact rfl; decide; rw [HQ'.out]; (try simp only [Act.put, pu1, pu2, pu3])) | ((with_reducible apply addNP); exact rfl; exact rfl; exact rfl; (first | rw [HT.out] | rw [HR'.out]); (try simp only [Act.put, pu1, pu2, pu3])))
            go_round
            case rel => exact ⟨q', r', rfl, rfl, HB.out⟩
            case measure => simp [intOf]; omega
        · have b3 : IsP (4294967296 ≤ q) false := IsP.no hqb
          have hpv : q * V0 ≤ 4294967295 * 4294967295 := Nat.mul_le_mul (by omega) (by omega)
          obtain ⟨PV, ePV⟩ : ∃ x, x = q * V0 := ⟨_, rfl⟩
          have HPV : Hid (q * V0 % 18446744073709551616 = PV) := hid (by rw [ePV]; exact Nat.mod_eq_of_lt (by omega))
          obtain ⟨RR, eRR⟩ : ∃ x, x = 4294967296 * r := ⟨_, rfl⟩
          have HRR : Hid (4294967296 * r % 18446744073709551616 = RR) := hid (by omega)
          obtain ⟨T, eT⟩ : ∃ x, x = RR + L0 := ⟨_, rfl⟩
          have HT : Hid ((RR + L0) % 18446744073709551616 = T) := hid (by omega)
          by_cases hg : T < PV
          · have hc : 4294967296 ≤ q ∨ 4294967296 * r + L0 < q * V0 := .inr (by omega)
            have b5 : IsP (T < PV) true := IsP.yes hg
            clear hpv ePV eRR eT hqb hg
            have hmore := half_more HH.out hun2 l0 hV1p hc
            have hq1 := hmore.1
            have HQ' : Hid ((q + 18446744073709551616 - 1) % 18446744073709551616 = q') := hid (by omega)
            have hmeas : q' < q := by omega
            by_cases hrb : 4294967296 ≤ r'
            · have hbr := half_break HH.out hun2 l0 hV1p v3 hc (by omega)
              have b4 : IsP (4294967296 ≤ r') true := IsP.yes hrb
              rw [← eq'] at hbr
              have HB := hid hbr
              clear hmore hc hrb hbr hh eq' er'
              go_wp2_with (first | ((with_reducible apply geqBP (Y := 4294967296)); exact rfl; exact rfl; exact rfl; (with_reducible assumption); (try simp only [Act.put, pu1, pu2, pu3])) | ((with_reducible apply gtrBP); exact rfl; exact rfl; exact rfl; (with_reducible assumption); (try simp only [Act.put, pu1, pu2, pu3])) | ((with_reducible apply mulNP (X := 4294967296)); exact rfl; exact rfl; exact rfl; rw [HRR.out]; (try simp only [Act.put, pu1, pu2, pu3])) | ((with_reducible apply mulNP); exact rfl; exact rfl; exact rfl; rw [HPV.out]; (try simp only [Act.put, pu1, pu2, pu3])) | ((with_reducible apply subNP (Y := 1)); exact rfl; exact rfl; exact rfl; decide; rw [HQ'.out]; (try simp only [Act.put, pu1, pu2, pu3])) | ((with_reducible apply addNP); exact rfl; exact rfl; exact rfl; (first | rw [HT.out] | rw [HR'.out]); (try simp only [Act.put, pu1, pu2, pu3])))
              go_meet
              case rel => exact ⟨by rw [HB.out], rfl⟩
            · have hnx := half_next HH.out hun2 l0 hV1p hc (by omega)
              have b4 : IsP (4294967296 ≤ r') false := IsP.no hrb
              rw [← eq', ← er'] at hnx
              have HB := hid hnx
              clear hmore hc hrb hnx hh eq' er'
              go_wp2_with (first | ((with_reducible apply geqBP (Y := 4294967296)); exact rfl; exact rfl; exact rfl; (with_reducible assumption); (try simp only [Act.put, pu1, pu2, pu3])) | ((with_reducible apply gtrBP); exact rfl; exact rfl; exact rfl; (with_reducible assumption); (try simp only [Act.put, pu1, pu2, pu3])) | ((with_reducible apply mulNP (X := 4294967296)); exact rfl; exact rfl; exact rfl; rw [HRR.out]; (try simp only [Act.put, pu1, pu2, pu3])) | ((with_reducible apply mulNP); exact rfl; exact rfl; exact rfl; rw [HPV.out]; (try simp only [Act.put, pu1, pu2, pu3])) | ((with_reducible apply subNP (Y := 1)); exact rfl; exact rfl; exact rfl; decide; rw [HQ'.out]; (try simp only [Act.put, pu1, pu2, pu3])) | ((with_reducible apply addNP); exact rfl; exact rfl; exact rfl; (first | rw [HT.out] | rw [HR'.out]); (try simp only [Act.put, pu1, pu2, pu3])))
              go_round
              case rel => exact ⟨q', r', rfl, rfl, HB.out⟩
              case measure => simp [intOf]; omega
          · have hst := half_stop HH.out hV1p (show q * V0 ≤ 4294967296 * r + L0 by omega)
            have b5 : IsP (T < PV) false := IsP.no hg
            have HB := hid hst
            clear hst hpv ePV eRR eT hqb hg hh eq' er'
            go_wp2_with (first | ((with_reducible apply geqBP (Y := 4294967296)); exact rfl; exact rfl; exact rfl; (with_reducible assumption); (try simp only [Act.put, pu1, pu2, pu3])) | ((with_reducible apply gtrBP); exact rfl; exact rfl; exact rfl; (with_reducible assumption); (try simp only [Act.put, pu1, pu2, pu3])) | ((with_reducible apply mulNP (X := 4294967296)); exact rfl; exact rfl; exact rfl; rw [HRR.out]; (try simp only [Act.put, pu1, pu2, pu3])) | ((with_reducible apply mulNP); exact rfl; exact rfl; exact rfl; rw [HPV.out]; (try simp only [Act.put, pu1, pu2, pu3])) | ((with_reducible apply subNP (Y := 1)); exact rfl; exact rfl; exact rfl; decide; rw [HQ'.out]; (try simp only [Act.put, pu1, pu2, pu3])) | ((with_reducible apply addNP); exact rfl; exact rfl; exact rfl; (first | rw [HT.out] | rw [HR'.out]); (try simp only [Act.put, pu1, pu2, pu3])))
            go_meet
            case rel => exact ⟨by rw [HB.out], rfl⟩
    case rest =>
      obtain ⟨rfl, rfl⟩ := hcut
      have hVV : 4294967296 * V1 + V0 = V := HV4.out.symm
      rw [hVV]
      clear hVV
      have hbo := half_both (u := U) (n1 := L1) (n0 := L0) hVp
      rw [← HEU2.out, ← HQ1.out] at hbo
      obtain ⟨Q0, eQ0⟩ : ∃ x, x = hq U2 V L0 := ⟨_, rfl⟩
      have hr3 := half_rest (n1 := L0) (u := U2) p4 hVp
      rw [← eQ0] at hbo hr3 ⊢
      obtain ⟨hb1, hb2⟩ := hbo
      have hN : 4294967296 * (4294967296 * U + L1) + L0 = (18446744073709551616 * hi + lo) * 2 ^ s := by rw [← HN.out, HL2.out]; omega
      rw [hN, HEV.out, Nat.mul_div_mul_right _ _ (Nat.two_pow_pos s)] at hb1
      rw [hN] at hb2
      rw [hb2, HEV.out, Nat.mul_mod_mul_right, Nat.mul_comm 4294967296 U2] at hr3
      obtain ⟨qq, eqq⟩ : ∃ x, x = (18446744073709551616 * hi + lo) / y := ⟨_, rfl⟩
      obtain ⟨rr, err⟩ : ∃ x, x = (18446744073709551616 * hi + lo) % y := ⟨_, rfl⟩
      have hqq : qq < 18446744073709551616 := by rw [eqq, Nat.div_lt_iff_lt_mul (by omega)]; omega
      rw [← eqq] at hb1
      rw [← err] at hr3
      have Hqq := hid eqq
      have Hrr := hid err
      obtain ⟨B1, eB1⟩ : ∃ x, x = Q1 * 4294967296 % 18446744073709551616 := ⟨_, rfl⟩
      have HB1 := hid eB1.symm
      have HB2 : Hid ((B1 + Q0) % 18446744073709551616 = qq) := hid (by omega)
      obtain ⟨C1, eC1⟩ : ∃ x, x = U2 * 4294967296 % 18446744073709551616 := ⟨_, rfl⟩
      rw [← eC1] at hr3
      obtain ⟨C2, eC2⟩ : ∃ x, x = (C1 + L0) % 18446744073709551616 := ⟨_, rfl⟩
      rw [← eC2] at hr3
      obtain ⟨C3, eC3⟩ : ∃ x, x = Q0 * (y * 2 ^ s) % 18446744073709551616 := ⟨_, rfl⟩
      rw [← eC3] at hr3
      rw [← HEV.out] at eC3
      have hC3 : C3 < 18446744073709551616 := by rw [eC3]; exact Nat.mod_lt _ (by decide)
      have HC1 := hid eC1.symm
      have HC2 := hid eC2.symm
      have HC3 := hid eC3.symm
      have HC4 := hid hr3
      have HC5 : Hid (rr * 2 ^ s / 2 ^ s = rr) := hid (Nat.mul_div_cancel _ (Nat.two_pow_pos s))
      clear hb1 hb2 hN hr3 eqq err eB1 eC1 eC2 eC3 eQ0
      go_wp2_with (first | ((with_reducible apply mulNP (Y := 4294967296)); exact rfl; exact rfl; exact rfl; (first | rw [HB1.out] | rw [HC1.out]); (try simp only [Act.put, pu1, pu2, pu3])) | ((with_reducible apply mulNP); exact rfl; exact rfl; exact rfl; rw [HC3.out]; (try simp only [Act.put, pu1, pu2, pu3])) | ((with_reducible apply addNP); exact rfl; exact rfl; exact rfl; (first | rw [HB2.out] | rw [HC2.out]); (try simp only [Act.put, pu1, pu2, pu3])) | ((with_reducible apply subNP); exact rfl; exact rfl; exact rfl; exact hC3; rw [HC4.out]; (try simp only [Act.put, pu1, pu2, pu3])) | ((with_reducible apply shrNP); exact rfl; exact rfl; exact rfl; exact hs64; rw [HC5.out]; (try simp only [Act.put, pu1, pu2, pu3])))
      go_ret2
      exact ⟨by rw [Hqq.out, Hrr.out]; rfl, Up.refl _⟩
theorem div64_any (hi lo y : Nat) (hy : y < 18446744073709551616) (hlo : lo < 18446744073709551616) (hlt : hi < y) (w : World) :
    Calls Tryz.prog 136 #[.int .u64 hi, .int .u64 lo, .int .u64 y] w fun e w' => e = .returned (.tuple #[.int .u64 (((18446744073709551616 * hi + lo) / y : Nat) : Int), .int .u64 (((18446744073709551616 * hi + lo) % y : Nat) : Int)]) ∧ Up w w' := by
  by_cases h : hi = 0
  · subst h
    rw [Nat.mul_zero, Nat.zero_add]
    exact div64_small lo y hlo (by omega) w
  · exact div64_great hi lo y hy hlo hlt (by omega) w
def ExRow (w : World) (b : Nat) (t : TypeId) (n : Nat) : Prop := ∃ f, Row w b t n f
theorem ExRow.up {w w' : World} {b n : Nat} {t : TypeId} (h : ExRow w b t n) (hu : Up w w') : ExRow w' b t n := let ⟨f, hf⟩ := h; ⟨f, hf.up hu⟩
theorem ExRow.st {w : World} {b c n : Nat} {t : TypeId} (h : ExRow w b t n) (v : Nat → Nat) : ExRow (w.setRow c (cells n v)) b t n := by
  obtain ⟨f, hf⟩ := h
  by_cases e : b = c
  · subst e; exact ⟨v, hf.setRow v⟩
  · exact ⟨f, hf.row_other _ e⟩
theorem short_step {x S r y xk q r' b X : Nat} (h : x = S * y + r * (b * 18446744073709551616) + (X + xk * b)) (hq : y * q + r' = 18446744073709551616 * r + xk) : x = (S + q * b) * y + r' * b + X := by
  have h2 : (y * q + r') * b = (18446744073709551616 * r + xk) * b := by rw [hq]
  rw [h]
  grind
theorem short_q {r y xk : Nat} (hr : r < y) (hx : xk < 18446744073709551616) : (18446744073709551616 * r + xk) / y < 18446744073709551616 := by
  rw [Nat.div_lt_iff_lt_mul (by omega)]
  omega
theorem sum_one (r n : Nat) : sumL (upd (fun _ => 0) 0 r) (n + 1) = r := by
  induction n with
  | zero => rw [sumL_upd_succ, sumL_zero, bp_zero]; omega
  | succ n ih => rw [sumL_succ, ih, upd_other _ _ _ (by omega)]; omega
theorem wide_one {r : Nat} (hr : r < 18446744073709551616) : Value.agg (cells 16 (upd (fun _ => 0) 0 r)) = wideV r := by
  rw [wide_of (upd_lt (fun _ _ => by decide) hr), sum_one r 15]
set_option maxHeartbeats 2000000 in
theorem short_any (x y : Nat) (hx : x < bp 16) (hy : y < 18446744073709551616) (h0 : 0 < y) (w : World) :
    Calls Tryz.prog 143 #[wideV x, .int .u64 y] w fun e w' => e = .returned (.tuple #[wideV (x / y), wideV (x % y)]) ∧ Up w w' := by
  have HL := hid (length_any x)
  have hn := lenL_le (limb x) 16
  have HX := hid (limb_len x hx)
  generalize lenL (limb x) 16 = n at *
  unfold wideV at *
  go_enter Tryz.func143, Tryz.ntmps143
  go_wp2_with (first | ((with_reducible apply ld_rowP undW infoW); exact rfl; exact rfl; exact gRow) | (go_at_call 140; refine (HL.out _).mono ?_; rintro e w' ⟨rfl, hu⟩; have rX : Row w' w.heap.size 33 16 (limb x) := gRow; have rA : Row w' (w.heap.size + 1) 33 16 (fun _ => 0) := gRow; have rB : Row w' (w.heap.size + 1 + 1) 33 16 (fun _ => 0) := gRow; have rQ : Row w' (w.heap.size + 1 + 1 + 1) 33 16 (fun _ => 0) := gRow; have rR : Row w' (w.heap.size + 1 + 1 + 1 + 1) 33 16 (fun _ => 0) := gRow; have rU : Below w.heap.size w w' := gUp; clear hu))
  go_loopw [8] (fun t wr => ∃ (m r : Nat) (f : Nat → Nat), m ≤ 16 ∧ t = .int .i64 ((m : Int) - 1) ∧ r < y ∧ (∀ j, j < 16 → f j < 18446744073709551616) ∧ (∀ j, j < m → f j = 0) ∧ x = sumL f 16 * y + r * bp m + sumL (limb x) m ∧
      Row wr w.heap.size 33 16 (limb x) ∧ Row wr (w.heap.size + 1) 33 16 (fun _ => 0) ∧ Row wr (w.heap.size + 1 + 1) 33 16 (fun _ => 0) ∧ Row wr (w.heap.size + 1 + 1 + 1) 33 16 f ∧ Row wr (w.heap.size + 1 + 1 + 1 + 1) 33 16 (upd (fun _ => 0) 0 r) ∧ Below w.heap.size w wr)
    (fun t _ => (intOf t + 1).toNat)
  case atStart => exact ⟨n, 0, fun _ => 0, hn, rfl, h0, fun j _ => by simp, fun j _ => rfl, by rw [sumL_zeros, HX.out]; omega, rX, rA, rB, rQ, rR.congr fun i _ => by unfold upd; split <;> rfl, rU⟩
  case round =>
    clear rX rA rB rQ rR rU
    obtain ⟨m, r, f, hm, rfl, hr, hf, hz, hsum, hX, hA, hB2, hQ, hR, hB⟩ := hrel
    have Hf := hid hf
    have Hz := hid hz
    have Hsum := hid hsum
    clear hf hz hsum
    by_cases hlt : 0 < m
    · obtain ⟨k, rfl⟩ : ∃ k, m = k + 1 := ⟨m - 1, by omega⟩
      have e : (((k + 1 : Nat) : Int) - 1) = (k : Int) := by omega
      rw [e]
      clear e
      have hlx := limb_lt x k
      obtain ⟨q, eq⟩ : ∃ q, q = (18446744073709551616 * r + limb x k) / y := ⟨_, rfl⟩
      obtain ⟨r', er⟩ : ∃ r', r' = (18446744073709551616 * r + limb x k) % y := ⟨_, rfl⟩
      have hD := div64_any r (limb x k) y hy hlx hr
      rw [← eq, ← er] at hD
      have HD := hid hD
      have hq : q < 18446744073709551616 := by rw [eq]; exact short_q hr hlx
      have hr' : r' < y := by rw [er]; exact Nat.mod_lt _ h0
      have HQR : Hid (y * q + r' = 18446744073709551616 * r + limb x k) := hid (by rw [eq, er]; exact Nat.div_add_mod _ _)
      clear eq er hD
      have hk1 : (k : Int) < 16 := by omega
      have hcx := hX.cell k (by omega)
      have hcr := hR.cell 0 (by omega)
      rw [upd_same] at hcr
      go_wp2
      refine wp_region_upS (S := (fun wq => Row wq w.heap.size 33 16 (limb x) ∧ Row wq (w.heap.size + 1) 33 16 (fun _ => 0) ∧ Row wq (w.heap.size + 1 + 1) 33 16 (fun _ => 0) ∧ Row wq (w.heap.size + 1 + 1 + 1) 33 16 f ∧ Row wq (w.heap.size + 1 + 1 + 1 + 1) 33 16 (upd (fun _ => 0) 0 r) ∧ wq.cell? ⟨w.heap.size, k, none⟩ = some (.int .u64 (limb x k : Nat)) ∧ wq.cell? ⟨w.heap.size + 1 + 1 + 1 + 1, 0, none⟩ = some (.int .u64 (r : Nat)) ∧ Below w.heap.size w wq)) (req := (fun j => j != 12 && j != 14)) (by kernel_rfl) (fun _ _ h hu => ⟨(h.1).up hu, (h.2.1).up hu, (h.2.2.1).up hu, (h.2.2.2.1).up hu, (h.2.2.2.2.1).up hu, hu.cell (h.2.2.2.2.2.1), hu.cell (h.2.2.2.2.2.2.1), below_up (h.2.2.2.2.2.2.2) hu⟩) ⟨gRow, gRow, gRow, gRow, gRow, (by first | assumption | (apply Blk.cell; exact gBlk; exact rfl)), (by first | assumption | (apply Blk.cell; exact gBlk; exact rfl)), gUp⟩ (fun wS hSS => ?_)
      have ⟨hS1, hS2, hS3, hS4, hS5, hS6, hS7, hSB⟩ := hSS
      clear hcx hcr hX hA hB2 hQ hR hB
      refine wpAnyU_pure (i := 0) (d := (some 17)) (v := ?_) rfl rfl (by kernel_rfl) (fun _ _ _ h => h) (fun _ _ h hu => ⟨(h.1).up hu, (h.2.1).up hu, (h.2.2.1).up hu, (h.2.2.2.1).up hu, (h.2.2.2.2.1).up hu, hu.cell (h.2.2.2.2.2.1), hu.cell (h.2.2.2.2.2.2.1), below_up (h.2.2.2.2.2.2.2) hu⟩) (Or.inl ⟨by rfl, fun w' _ => yu_value ?_⟩) ?_
      rotate_left
      · (go_simp; (try exact rfl))
      try simp only [Act.put, pu1, pu2, pu3]
      refine wpAnyU_pure (i := 1) (d := (some 18)) (v := ?_) rfl rfl (by kernel_rfl) (fun _ _ _ h => h) (fun _ _ h hu => ⟨(h.1).up hu, (h.2.1).up hu, (h.2.2.1).up hu, (h.2.2.2.1).up hu, (h.2.2.2.2.1).up hu, hu.cell (h.2.2.2.2.2.1), hu.cell (h.2.2.2.2.2.2.1), below_up (h.2.2.2.2.2.2.2) hu⟩) (Or.inl ⟨by rfl, fun w' _ => yu_value ?_⟩) ?_
      rotate_left
      · (go_simp; (try exact rfl))
      try simp only [Act.put, pu1, pu2, pu3]
      refine wpAnyU_take (i := 2) (d := (some 19)) (v := ?_) rfl rfl (by kernel_rfl) (fun _ _ _ h => h) (fun _ _ h hu => ⟨(h.1).up hu, (h.2.1).up hu, (h.2.2.1).up hu, (h.2.2.2.1).up hu, (h.2.2.2.2.1).up hu, hu.cell (h.2.2.2.2.2.1), hu.cell (h.2.2.2.2.2.2.1), below_up (h.2.2.2.2.2.2.2) hu⟩) hSS (Or.inl ⟨by rfl, fun w' hSw => yu_value ?_⟩) ?_
      rotate_left
      · ((try dsimp only at hSw); (try obtain ⟨_, _, _, _, _, _, _, _⟩ := hSw); go_simp; (try exact rfl))
      try simp only [Act.put, pu1, pu2, pu3]
      refine wpAnyU_pure (i := 3) (d := (some 20)) (v := ?_) rfl rfl (by kernel_rfl) (fun _ _ _ h => h) (fun _ _ h hu => ⟨(h.1).up hu, (h.2.1).up hu, (h.2.2.1).up hu, (h.2.2.2.1).up hu, (h.2.2.2.2.1).up hu, hu.cell (h.2.2.2.2.2.1), hu.cell (h.2.2.2.2.2.2.1), below_up (h.2.2.2.2.2.2.2) hu⟩) (Or.inl ⟨by rfl, fun w' _ => yu_value ?_⟩) ?_
      rotate_left
      · (go_simp; (try exact rfl))
      try simp only [Act.put, pu1, pu2, pu3]
      refine wpAnyU_pure (i := 4) (d := (some 21)) (v := ?_) rfl rfl (by kernel_rfl) (fun _ _ _ h => h) (fun _ _ h hu => ⟨(h.1).up hu, (h.2.1).up hu, (h.2.2.1).up hu, (h.2.2.2.1).up hu, (h.2.2.2.2.1).up hu, hu.cell (h.2.2.2.2.2.1), hu.cell (h.2.2.2.2.2.2.1), below_up (h.2.2.2.2.2.2.2) hu⟩) (Or.inl ⟨by rfl, fun w' _ => yu_value ?_⟩) ?_
      rotate_left
      · (go_simp; (try exact rfl))
      try simp only [Act.put, pu1, pu2, pu3]
      refine wpAnyU_take (i := 5) (d := (some 22)) (v := ?_) rfl rfl (by kernel_rfl) (fun _ _ _ h => h) (fun _ _ h hu => ⟨(h.1).up hu, (h.2.1).up hu, (h.2.2.1).up hu, (h.2.2.2.1).up hu, (h.2.2.2.2.1).up hu, hu.cell (h.2.2.2.2.2.1), hu.cell (h.2.2.2.2.2.2.1), below_up (h.2.2.2.2.2.2.2) hu⟩) hSS (Or.inl ⟨by rfl, fun w' hSw => yu_value ?_⟩) ?_
      rotate_left
      · ((try dsimp only at hSw); (try obtain ⟨_, _, _, _, _, _, _, _⟩ := hSw); go_simp; (try exact rfl))
      try simp only [Act.put, pu1, pu2, pu3]
      refine wpAnyU_pure (i := 6) (d := (some 23)) (v := ?_) rfl rfl (by kernel_rfl) (fun _ _ _ h => h) (fun _ _ h hu => ⟨(h.1).up hu, (h.2.1).up hu, (h.2.2.1).up hu, (h.2.2.2.1).up hu, (h.2.2.2.2.1).up hu, hu.cell (h.2.2.2.2.2.1), hu.cell (h.2.2.2.2.2.2.1), below_up (h.2.2.2.2.2.2.2) hu⟩) (Or.inl ⟨by rfl, fun w' _ => yu_value ?_⟩) ?_
      rotate_left
      · (go_simp; (try exact rfl))
      try simp only [Act.put, pu1, pu2, pu3]
      refine wpAnyU_take (i := 7) (d := (some 24)) (v := _) rfl rfl (by kernel_rfl) (fun _ _ _ h => h) (fun _ _ h hu => ⟨(h.1).up hu, (h.2.1).up hu, (h.2.2.1).up hu, (h.2.2.2.1).up hu, (h.2.2.2.2.1).up hu, hu.cell (h.2.2.2.2.2.1), hu.cell (h.2.2.2.2.2.2.1), below_up (h.2.2.2.2.2.2.2) hu⟩) hSS (Or.inl ⟨by rfl, fun w' hSw => yu_call ?_ (HD.out _)⟩) ?_
      · go_simp
      try simp only [Act.put, pu1, pu2, pu3]
      refine wpAnyU_pure (i := 8) (d := (some 16)) (v := ?_) rfl rfl (by kernel_rfl) (fun _ _ _ h => h) (fun _ _ h hu => ⟨(h.1).up hu, (h.2.1).up hu, (h.2.2.1).up hu, (h.2.2.2.1).up hu, (h.2.2.2.2.1).up hu, hu.cell (h.2.2.2.2.2.1), hu.cell (h.2.2.2.2.2.2.1), below_up (h.2.2.2.2.2.2.2) hu⟩) (Or.inl ⟨by rfl, fun w' _ => yu_value ?_⟩) ?_
      rotate_left
      · (go_simp; (try exact rfl))
      try simp only [Act.put, pu1, pu2, pu3]
      refine wpAnyU_pure (i := 9) (d := (some 25)) (v := ?_) rfl rfl (by kernel_rfl) (fun _ _ _ h => h) (fun _ _ h hu => ⟨(h.1).up hu, (h.2.1).up hu, (h.2.2.1).up hu, (h.2.2.2.1).up hu, (h.2.2.2.2.1).up hu, hu.cell (h.2.2.2.2.2.1), hu.cell (h.2.2.2.2.2.2.1), below_up (h.2.2.2.2.2.2.2) hu⟩) (Or.inl ⟨by rfl, fun w' _ => yu_value ?_⟩) ?_
      rotate_left
      · (go_simp; (try exact rfl))
      try simp only [Act.put, pu1, pu2, pu3]
      refine wpAnyU_pure (i := 10) (d := (some 26)) (v := ?_) rfl rfl (by kernel_rfl) (fun _ _ _ h => h) (fun _ _ h hu => ⟨(h.1).up hu, (h.2.1).up hu, (h.2.2.1).up hu, (h.2.2.2.1).up hu, (h.2.2.2.2.1).up hu, hu.cell (h.2.2.2.2.2.1), hu.cell (h.2.2.2.2.2.2.1), below_up (h.2.2.2.2.2.2.2) hu⟩) (Or.inl ⟨by rfl, fun w' _ => yu_value ?_⟩) ?_
      rotate_left
      · (go_simp; (try exact rfl))
      try simp only [Act.put, pu1, pu2, pu3]
      refine wpAnyU_pure (i := 11) (d := (some 27)) (v := ?_) rfl rfl (by kernel_rfl) (fun _ _ _ h => h) (fun _ _ h hu => ⟨(h.1).up hu, (h.2.1).up hu, (h.2.2.1).up hu, (h.2.2.2.1).up hu, (h.2.2.2.2.1).up hu, hu.cell (h.2.2.2.2.2.1), hu.cell (h.2.2.2.2.2.2.1), below_up (h.2.2.2.2.2.2.2) hu⟩) (Or.inl ⟨by rfl, fun w' _ => yu_value ?_⟩) ?_
      rotate_left
      · (go_simp; (try exact rfl))
      try simp only [Act.put, pu1, pu2, pu3]
      refine wpAnyU_one (i := 12) rfl (by kernel_rfl) (by rfl) fun w1 hw1 => ?_
      have hcW := (hS4.up hw1).cell k (by omega)
      have hfW := (hS4.up hw1).frozen k
      go_simp
      clear hcW hfW
      have gX := (hS1.up hw1).other ⟨w.heap.size + 1 + 1 + 1, k, none⟩ (.int .u64 (q : Nat)) (by simp <;> omega)
      have gA := (hS2.up hw1).other ⟨w.heap.size + 1 + 1 + 1, k, none⟩ (.int .u64 (q : Nat)) (by simp <;> omega)
      have gB2 := (hS3.up hw1).other ⟨w.heap.size + 1 + 1 + 1, k, none⟩ (.int .u64 (q : Nat)) (by simp)
      have gQ := (hS4.up hw1).set k q
      have gR := (hS5.up hw1).other ⟨w.heap.size + 1 + 1 + 1, k, none⟩ (.int .u64 (q : Nat)) (by simp)
      have gB := (below_up hSB hw1).setCell (p := ⟨w.heap.size + 1 + 1 + 1, k, none⟩) (by simp <;> omega) (.int .u64 (q : Nat))
      clear hS1 hS2 hS3 hS4 hS5 hS6 hS7 hSB hw1
      refine wpAnyU_pure (i := 13) (d := (some 28)) (v := ?_) rfl rfl (by kernel_rfl) (fun _ _ _ h => h) (fun _ _ h hu => ⟨(h.1).up hu, (h.2.1).up hu, (h.2.2.1).up hu, (h.2.2.2.1).up hu, (h.2.2.2.2.1).up hu, hu.cell (h.2.2.2.2.2.1), hu.cell (h.2.2.2.2.2.2.1), below_up (h.2.2.2.2.2.2.2) hu⟩) (Or.inl ⟨by rfl, fun w' _ => yu_value ?_⟩) ?_
      rotate_left
      · (go_simp; (try exact rfl))
      try simp only [Act.put, pu1, pu2, pu3]
      refine wpAnyU_one (i := 14) rfl (by kernel_rfl) (by rfl) fun w2 hw2 => ?_
      have hcW := (gR.up hw2).cell 0 (by omega)
      have hfW := (gR.up hw2).frozen 0
      go_simp
      clear hcW hfW hSS
      refine wpAnyU_done (by kernel_rfl) (fun wF huE => ?_) _
      have fX := ((gX.up hw2).other ⟨w.heap.size + 1 + 1 + 1 + 1, 0, none⟩ (.int .u64 (r' : Nat)) (by simp <;> omega)).up huE
      have fA := ((gA.up hw2).other ⟨w.heap.size + 1 + 1 + 1 + 1, 0, none⟩ (.int .u64 (r' : Nat)) (by simp <;> omega)).up huE
      have fB2 := ((gB2.up hw2).other ⟨w.heap.size + 1 + 1 + 1 + 1, 0, none⟩ (.int .u64 (r' : Nat)) (by simp <;> omega)).up huE
      have fQ := ((gQ.up hw2).other ⟨w.heap.size + 1 + 1 + 1 + 1, 0, none⟩ (.int .u64 (r' : Nat)) (by simp)).up huE
      have fR : Row wF (w.heap.size + 1 + 1 + 1 + 1) 33 16 (upd (fun _ => 0) 0 r') := (((gR.up hw2).set 0 r').up huE).congr fun i _ => by unfold upd; split <;> rfl
      have fB := below_up ((below_up gB hw2).setCell (p := ⟨w.heap.size + 1 + 1 + 1 + 1, 0, none⟩) (by simp <;> omega) (.int .u64 (r' : Nat))) huE
      clear gX gA gB2 gQ gR gB hw2 huE
      go_wp2
      go_roundw
      case rel =>
        refine ⟨k, r', upd f k q, by omega, by go_num, hr', upd_lt Hf.out hq, fun j hj => by rw [upd_other _ _ _ (by omega)]; exact Hz.out j (by omega), ?_, fX, fA, fB2, fQ, fR, fB⟩
        have h1 := sumL_upd f q (show k < 16 by omega)
        rw [Hz.out k (by omega), Nat.zero_mul, Nat.add_zero] at h1
        have h2 := Hsum.out
        rw [bp_succ, sumL_succ (limb x) k] at h2
        rw [h1]
        exact short_step h2 HQR.out
      case measure => simp [intOf] <;> omega
    · obtain rfl : m = 0 := by omega
      have hfin := Hsum.out
      rw [bp_zero, sumL_zero, Nat.mul_one, Nat.add_zero] at hfin
      have e1 : x / y = sumL f 16 := by rw [hfin, Nat.mul_comm, Nat.mul_add_div h0, Nat.div_eq_of_lt hr, Nat.add_zero]
      have e2 : x % y = r := by rw [hfin, Nat.mul_comm, Nat.mul_add_mod, Nat.mod_eq_of_lt hr]
      have HE1 := hid e1
      have HE2 := hid e2
      clear hfin e1 e2
      go_wp2
      refine wp_region_upS (S := (fun wq => Row wq (w.heap.size + 1 + 1 + 1) 33 16 f ∧ Row wq (w.heap.size + 1 + 1 + 1 + 1) 33 16 (upd (fun _ => 0) 0 r) ∧ ExRow wq (w.heap.size + 1) 33 16 ∧ ExRow wq (w.heap.size + 1 + 1) 33 16 ∧ Below w.heap.size w wq)) (req := (fun j => j != 3)) (by kernel_rfl) (fun _ _ h hu => ⟨(h.1).up hu, (h.2.1).up hu, (h.2.2.1).up hu, (h.2.2.2.1).up hu, below_up (h.2.2.2.2) hu⟩) ⟨gRow, gRow, ⟨_, gRow⟩, ⟨_, gRow⟩, gUp⟩ (fun wS hSS => ?_)
      have ⟨hS1, hS2, hS3, hS4, hSB⟩ := hSS
      clear hX hA hB2 hQ hR hB
      refine wpAnyU_take (i := 0) (d := (some 29)) (v := _) rfl rfl (by kernel_rfl) (fun _ _ _ h => h) (fun _ _ h hu => ⟨(h.1).up hu, (h.2.1).up hu, (h.2.2.1).up hu, (h.2.2.2.1).up hu, below_up (h.2.2.2.2) hu⟩) hSS (Or.inl ⟨by rfl, fun w' hSw => yu_value (run_ld undW infoW _ rfl _ rfl hSw.1)⟩) ?_
      try simp only [Act.put, pu1, pu2, pu3]
      refine wpAnyU_take (i := 1) (d := (some 30)) (v := _) rfl rfl (by kernel_rfl) (fun _ _ _ h => h) (fun _ _ h hu => ⟨(h.1).up hu, (h.2.1).up hu, (h.2.2.1).up hu, (h.2.2.2.1).up hu, below_up (h.2.2.2.2) hu⟩) hSS (Or.inl ⟨by rfl, fun w' hSw => yu_value (run_ld undW infoW _ rfl _ rfl hSw.2.1)⟩) ?_
      try simp only [Act.put, pu1, pu2, pu3]
      obtain ⟨v3, hS3⟩ := hS3
      obtain ⟨v4, hS4⟩ := hS4
      refine wpAnyU_one (i := 2) rfl (by kernel_rfl) (by rfl) fun w2 hw2 => ?_
      refine wp_st_rowN infoW rfl _ _ rfl _ rfl rfl (hS3.up hw2) ?_
      refine ⟨fun _ h => ⟨h.1.row_other _ (by omega), h.2.1.row_other _ (by omega), h.2.2.1.st f, h.2.2.2.1.st f, below_setRow h.2.2.2.2 (by omega) _⟩, ?_⟩
      refine wpAnyU_one (i := 3) rfl (by kernel_rfl) (by rfl) fun w3 hw3 => ?_
      refine wp_st_rowN infoW rfl _ _ rfl _ rfl rfl ((Row.up (((hS4.up hw2).row_other (cells 16 f) (show w.heap.size + 1 + 1 ≠ w.heap.size + 1 by omega))) hw3)) ?_
      refine ⟨fun h => by simp at h, ?_⟩
      try simp only [Act.put, pu1, pu2, pu3]
      refine wpAnyU_done (by kernel_rfl) (fun wF huE => ?_) _
      have gA := ((((hS3.up hw2).setRow f).up hw3).row_other (cells 16 (upd (fun _ => 0) 0 r)) (show w.heap.size + 1 ≠ w.heap.size + 1 + 1 by omega)).up huE
      have gC := (((hS4.up hw2).row_other (cells 16 f) (show w.heap.size + 1 + 1 ≠ w.heap.size + 1 by omega)).up hw3).setRow (upd (fun _ => 0) 0 r)
      replace gC := gC.up huE
      have gB := below_up (below_setRow (below_up (below_setRow (below_up hSB hw2) (show w.heap.size ≤ w.heap.size + 1 by omega) (cells 16 f)) hw3) (show w.heap.size ≤ w.heap.size + 1 + 1 by omega) (cells 16 (upd (fun _ => 0) 0 r))) huE
      clear hS1 hS2 hS3 hS4 hSB hSS hw2 hw3 huE
      go_wp2
      exact bodyPost_ret (resCC rfl undW infoW _ _ _ rfl rfl gA gC) rfl ⟨by
        rw [HE1.out, HE2.out, wide_of Hf.out, wide_one (by omega)]; rfl, gB⟩
theorem wp_st_rowZ {P : Program} {t : TypeId} {o : Oper} {a : Act} {w : World} {K : Act → World → Prop} {Q : Exit → Act → World → Prop} (hi : (P.info? t).map (·.size) = some 16) (hd : o.dst = none) (x y : Operand) (ho : o.op = .store t x y) (g : Nat)
    (hx : a.eval x = .pointer (some ⟨g, 0, none⟩)) {f : Nat → Nat} (hy : a.eval y = .agg #[.int .u64 0, .int .u64 0, .int .u64 0, .int .u64 0, .int .u64 0, .int .u64 0, .int .u64 0, .int .u64 0, .int .u64 0, .int .u64 0, .int .u64 0, .int .u64 0, .int .u64 0, .int .u64 0, .int .u64 0, .int .u64 0])
    (hC : Row w g t 16 f) (h : K a (w.setRow g (cells 16 (fun _ => 0)))) : o.wp P a w K Q :=
  wp_st_rowN hi hd x y ho g hx (by rw [hy, zeros16]) hC h
def divV (x y : Nat) : Value := .tuple #[wideV (x / y), wideV (x % y)]
theorem ordZ_lt {x y : Nat} (h : x < y) : ordZ x y = -1 := by simp [ordZ, h]
theorem ordZ_ge {x y : Nat} (h : ¬ x < y) : 0 ≤ ordZ x y := by
  unfold ordZ
  rw [if_neg h]
  split <;> omega
set_option maxHeartbeats 1000000 in
theorem divide_less (x y : Nat) (hx : x < bp 16) (hy : y < bp 16) (h : x < y) (w : World) :
    Calls Tryz.prog 132 #[wideV x, wideV y] w fun e w' => e = .returned (divV x y) ∧ Up w w' := by
  have hO := fun w => order_any x y hx hy w
  rw [ordZ_lt h] at hO
  have HO := hid hO
  unfold divV
  rw [Nat.div_eq_of_lt h, Nat.mod_eq_of_lt h, zeroW]
  clear hO
  unfold wideV at *
  go_enter Tryz.func132, Tryz.ntmps132
  go_wp2_with (first | ((with_reducible apply ld_rowP undW infoW); exact rfl; exact rfl; exact gRow) | (go_at_call 122; refine (HO.out _).mono ?_; rintro e w' ⟨rfl, hu⟩))
  refine wp_region_upS (S := (fun wq => Row wq w.heap.size 33 16 (limb x) ∧ ExRow wq (w.heap.size + 1 + 1) 33 16 ∧ ExRow wq (w.heap.size + 1 + 1 + 1) 33 16 ∧ Below w.heap.size w wq)) (req := (fun j => j != 3)) (by kernel_rfl) (fun _ _ h hu => ⟨(h.1).up hu, (h.2.1).up hu, (h.2.2.1).up hu, below_up (h.2.2.2) hu⟩) ⟨gRow, ⟨_, gRow⟩, ⟨_, gRow⟩, gUp⟩ (fun wS hSS => ?_)
  have ⟨hS1, hS2, hS3, hSB⟩ := hSS
  clear hu
  refine wpAnyU_pure (i := 0) (d := (some 10)) (v := ?_) rfl rfl (by kernel_rfl) (fun _ _ _ h => h) (fun _ _ h hu => ⟨(h.1).up hu, (h.2.1).up hu, (h.2.2.1).up hu, below_up (h.2.2.2) hu⟩) (Or.inl ⟨by rfl, fun w' _ => yu_value ?_⟩) ?_
  rotate_left
  · (go_simp; (try exact rfl))
  try simp only [Act.put, pu1, pu2, pu3]
  refine wpAnyU_take (i := 1) (d := (some 11)) (v := _) rfl rfl (by kernel_rfl) (fun _ _ _ h => h) (fun _ _ h hu => ⟨(h.1).up hu, (h.2.1).up hu, (h.2.2.1).up hu, below_up (h.2.2.2) hu⟩) hSS (Or.inl ⟨by rfl, fun w' hSw => yu_value (run_ld undW infoW _ rfl _ rfl hSw.1)⟩) ?_
  try simp only [Act.put, pu1, pu2, pu3]
  obtain ⟨v3, hS2⟩ := hS2
  obtain ⟨v4, hS3⟩ := hS3
  refine wpAnyU_one (i := 2) rfl (by kernel_rfl) (by rfl) fun w2 hw2 => ?_
  refine wp_st_rowZ infoW rfl _ _ rfl _ rfl rfl (hS2.up hw2) ?_
  refine ⟨fun _ h => ⟨h.1.row_other _ (by omega), h.2.1.st _, h.2.2.1.st _, below_setRow h.2.2.2 (by omega) _⟩, ?_⟩
  refine wpAnyU_one (i := 3) rfl (by kernel_rfl) (by rfl) fun w3 hw3 => ?_
  refine wp_st_rowN infoW rfl _ _ rfl _ rfl rfl ((Row.up (((hS3.up hw2).row_other (cells 16 (fun _ => 0)) (show w.heap.size + 1 + 1 + 1 ≠ w.heap.size + 1 + 1 by omega))) hw3)) ?_
  refine ⟨fun h => by simp at h, ?_⟩
  try simp only [Act.put, pu1, pu2, pu3]
  refine wpAnyU_done (by kernel_rfl) (fun wF huE => ?_) _
  have gA := ((((hS2.up hw2).setRow (fun _ => 0)).up hw3).row_other (cells 16 (limb x)) (show w.heap.size + 1 + 1 ≠ w.heap.size + 1 + 1 + 1 by omega)).up huE
  have gC := (((hS3.up hw2).row_other (cells 16 (fun _ => 0)) (show w.heap.size + 1 + 1 + 1 ≠ w.heap.size + 1 + 1 by omega)).up hw3).setRow (limb x)
  replace gC := gC.up huE
  have gB := below_up (below_setRow (below_up (below_setRow (below_up hSB hw2) (show w.heap.size ≤ w.heap.size + 1 + 1 by omega) (cells 16 (fun _ => 0))) hw3) (show w.heap.size ≤ w.heap.size + 1 + 1 + 1 by omega) (cells 16 (limb x))) huE
  clear hS1 hS2 hS3 hSB hSS hw2 hw3 huE
  go_wp2
  exact bodyPost_ret (resCC rfl undW infoW _ _ _ rfl rfl gA gC) rfl ⟨rfl, gB⟩
set_option maxHeartbeats 1000000 in
theorem divide_one (x y : Nat) (hx : x < bp 16) (hy : y < bp 16) (h : ¬ x < y) (h1 : lenL (limb y) 16 = 1) (w : World) :
    Calls Tryz.prog 132 #[wideV x, wideV y] w fun e w' => e = .returned (divV x y) ∧ Up w w' := by
  have hO := fun w => order_any x y hx hy w
  have ho := ordZ_ge h
  have hL := fun w => length_any y w
  rw [h1] at hL
  have hy1 : limb y 0 = y := by
    have e := limb_len y hy
    rw [h1, sumL_succ, sumL_zero, bp_zero] at e
    omega
  have hyl := limb_lt y 0
  rw [hy1] at hyl
  have hy0 : 0 < y := by
    have := lenL_top (limb y) 16 (by omega)
    rw [h1] at this
    have e : limb y (1 - 1) = limb y 0 := rfl
    rw [e, hy1] at this
    omega
  have HS := hid (fun w => short_any x y hx hyl hy0 w)
  have HO := hid hO
  have HL := hid hL
  have Hy1 := hid hy1
  unfold divV
  clear hO hL hy1 h h1
  generalize ordZ x y = oz at *
  have hoz : ¬ oz < 0 := by omega
  obtain ⟨q, eq⟩ : ∃ q, x / y = q := ⟨_, rfl⟩
  obtain ⟨r, er⟩ : ∃ r, x % y = r := ⟨_, rfl⟩
  rw [eq, er] at HS ⊢
  clear eq er
  unfold wideV at *
  go_enter Tryz.func132, Tryz.ntmps132
  go_wp2_with (first | ((with_reducible apply ld_rowP undW infoW); exact rfl; exact rfl; exact gRow) | ((with_reducible apply st_rowP infoW); exact rfl; exact rfl; exact gRow) | ((with_reducible apply st_rowZ infoW); exact rfl; exact rfl; exact gRow) | (go_at_call 122; refine (HO.out _).mono ?_; rintro e w' ⟨rfl, hu⟩) | (go_at_call 140; refine (HL.out _).mono ?_; rintro e w' ⟨rfl, hu⟩; have hcl := Row.cell (w := w') (b := w.heap.size + 1) (t := 33) (n := 16) (f := limb y) gRow 0 (by omega); rw [Hy1.out] at hcl) | (go_at_call 143; refine (HS.out _).mono ?_; rintro e w' ⟨rfl, hu⟩))
  exact bodyPost_ret (resCC rfl undW infoW _ _ _ rfl rfl gRow gRow) rfl ⟨rfl, gUp⟩
theorem wpAnyU_alloc2 {ops : Array Oper} {Q : Exit → Act → World → Prop} {md : Region.Mode} {S : World → Prop} {req : Nat → Bool} {i j : Nat} {oi oj : Oper} {di dj : Tmp} {fuel : Nat} {listed : Array Bool} {a : Act} {w : World}
    (hi : ops[i]? = some oi) (hj : ops[j]? = some oj) (hdi : oi.dst = some di) (hdj : oj.dst = some dj) (hd : di ≠ dj) (hgi : oi.guard = none) (hgj : oj.guard = none) (hoi : oi.op = .alloc 33) (hoj : oj.op = .alloc 33)
    (hr : Region.ready md ops listed = [i, j]) (hr1 : Region.ready md ops (listed.setIfInBounds i true) = [j]) (hr2 : Region.ready md ops (listed.setIfInBounds j true) = [i]) (hij : i ≠ j) (hSup : ∀ w w', S w → Up w w' → S w')
    (h : ∀ w1 p q, Up w w1 → Row w1 p 33 16 (fun _ => 0) → Row w1 q 33 16 (fun _ => 0) → p ≠ q → w.heap.size ≤ p → w.heap.size ≤ q →
      wpAnyU Tryz.prog md ops Q S req fuel ((listed.setIfInBounds i true).setIfInBounds j true) ((a.put (some di) (.pointer (some ⟨p, 0, none⟩))).put (some dj) (.pointer (some ⟨q, 0, none⟩))) w1) :
    wpAnyU Tryz.prog md ops Q S req (fuel + 2) listed a w := by
  have hwi : ∀ a : Act, Region.wanted oi (yielded ops a.tmps) = true := fun a => by simp [Region.wanted, hgi]
  have hwj : ∀ a : Act, Region.wanted oj (yielded ops a.tmps) = true := fun a => by simp [Region.wanted, hgj]
  refine wpAnyU_all hr (by simp) fun w1 hw1 k hk => ?_
  simp only [List.mem_cons, List.not_mem_nil, or_false] at hk
  rcases hk with rfl | rfl
  · unfold wpOp
    simp only [hi, hwi, if_true]
    refine .inl ?_
    unfold Oper.wp
    rw [run_allocW hoi w1]
    refine ⟨fun _ hS => hSup _ _ hS (Up.alloc _ _), ?_⟩
    refine wpAnyU_allocW hj hdj hr1 (hwj _) hoj hSup fun w2 hw2 => ?_
    rw [hdi]
    have h1 := hw1.size
    have h2 := hw2.size
    simp only [World.alloc, Array.size_push] at h2
    exact h _ _ _ ((hw1.trans ((Up.alloc _ _).trans hw2)).trans (Up.alloc _ _)) ((Row.up (row_newc _ 16 _ rfl) hw2).up (Up.alloc _ _)) (row_newc _ 16 _ rfl) (by omega) (by omega) (by omega)
  · unfold wpOp
    simp only [hj, hwj, if_true]
    refine .inl ?_
    unfold Oper.wp
    rw [run_allocW hoj w1]
    refine ⟨fun _ hS => hSup _ _ hS (Up.alloc _ _), ?_⟩
    refine wpAnyU_allocW hi hdi hr2 (hwi _) hoi hSup fun w2 hw2 => ?_
    rw [hdj, Act.put_comm a (x := some dj) (y := some di) _ _ (fun d h1 h2 => hd (by rw [Option.some.inj h1, Option.some.inj h2])), Array.setIfInBounds_comm _ _ (Ne.symm hij)]
    have h1 := hw1.size
    have h2 := hw2.size
    simp only [World.alloc, Array.size_push] at h2
    exact h _ _ _ ((hw1.trans ((Up.alloc _ _).trans hw2)).trans (Up.alloc _ _)) (row_newc _ 16 _ rfl) ((Row.up (row_newc _ 16 _ rfl) hw2).up (Up.alloc _ _)) (by omega) (by omega) (by omega)
theorem pm_tdiv (a b : Int) {sa sb : Bool} (ha : sa = decide (a < 0)) (hb' : sb = decide (b < 0)) : pm (!(sa == sb)) (a.natAbs / b.natAbs) = a.tdiv b := by
  subst ha; subst hb'
  by_cases h1 : a < 0
  · obtain ⟨n, e⟩ : ∃ n : Nat, a = -(n : Int) := ⟨a.natAbs, by omega⟩
    by_cases h2 : b < 0
    · obtain ⟨m, f⟩ : ∃ m : Nat, b = -(m : Int) := ⟨b.natAbs, by omega⟩
      rw [decide_eq_true h1, decide_eq_true h2, e, f, Int.natAbs_neg, Int.natAbs_neg, Int.neg_tdiv, Int.tdiv_neg, Int.neg_neg, ← Int.ofNat_tdiv]
      rfl
    · obtain ⟨m, f⟩ : ∃ m : Nat, b = (m : Int) := ⟨b.natAbs, by omega⟩
      rw [decide_eq_true h1, decide_eq_false h2, e, f, Int.natAbs_neg, Int.neg_tdiv, ← Int.ofNat_tdiv]
      rfl
  · obtain ⟨n, e⟩ : ∃ n : Nat, a = (n : Int) := ⟨a.natAbs, by omega⟩
    by_cases h2 : b < 0
    · obtain ⟨m, f⟩ : ∃ m : Nat, b = -(m : Int) := ⟨b.natAbs, by omega⟩
      rw [decide_eq_false h1, decide_eq_true h2, e, f, Int.natAbs_neg, Int.tdiv_neg, ← Int.ofNat_tdiv]
      rfl
    · obtain ⟨m, f⟩ : ∃ m : Nat, b = (m : Int) := ⟨b.natAbs, by omega⟩
      rw [decide_eq_false h1, decide_eq_false h2, e, f, ← Int.ofNat_tdiv]
      rfl
theorem pm_tmod (a b : Int) {sa : Bool} (ha : sa = decide (a < 0)) : pm sa (a.natAbs % b.natAbs) = a.tmod b := by
  subst ha
  have hb' : a.tmod b = a.tmod (b.natAbs : Int) := by
    by_cases h2 : b < 0
    · obtain ⟨m, f⟩ : ∃ m : Nat, b = -(m : Int) := ⟨b.natAbs, by omega⟩
      rw [f, Int.tmod_neg, Int.natAbs_neg]; rfl
    · obtain ⟨m, f⟩ : ∃ m : Nat, b = (m : Int) := ⟨b.natAbs, by omega⟩
      rw [f]; rfl
  rw [hb']
  by_cases h1 : a < 0
  · obtain ⟨n, e⟩ : ∃ n : Nat, a = -(n : Int) := ⟨a.natAbs, by omega⟩
    rw [decide_eq_true h1, e, Int.natAbs_neg, Int.neg_tmod, ← Int.ofNat_tmod]
    rfl
  · obtain ⟨n, e⟩ : ∃ n : Nat, a = (n : Int) := ⟨a.natAbs, by omega⟩
    rw [decide_eq_false h1, e, ← Int.ofNat_tmod]
    rfl
def divZV (a b : Int) : Value :=
  if b = 0 ∨ ¬ InR (a.tdiv b) then .tuple #[.agg (cells 16 (fun _ => 0)), .agg (cells 16 (fun _ => 0)), .bool false]
  else .tuple #[wideV (enc (a.tdiv b)), wideV (enc (a.tmod b)), .bool true]
theorem tmod_in {a b : Int} (ha : InR a) : InR (a.tmod b) := by
  have h := pm_tmod a b (sa := decide (a < 0)) rfl
  have h1 := Nat.mod_le a.natAbs b.natAbs
  have h2 := ha.out
  rw [← h]
  generalize a.natAbs % b.natAbs = r at *
  refine InR.mk' ?_
  unfold pm
  split
  · rename_i hs
    have hs : a < 0 := by simpa using hs
    omega
  · rename_i hs
    have hs : ¬ a < 0 := by simpa using hs
    omega
set_option maxHeartbeats 2000000 in
theorem div_z {a b : Int} (ha : InR a) (hb' : InR b) (hDV : b ≠ 0 → ∀ w, Calls Tryz.prog 132 #[wideV a.natAbs, wideV b.natAbs] w fun e w' => e = .returned (divV a.natAbs b.natAbs) ∧ Up w w') (w : World) :
    Calls Tryz.prog 111 #[wideV (enc a), wideV (enc b)] w fun e w' => e = .returned (divZV a b) ∧ Up w w' := by
  have hltb := enc_lt b
  by_cases h0 : b = 0
  · have e : divZV a b = .tuple #[.agg (cells 16 (fun _ => 0)), .agg (cells 16 (fun _ => 0)), .bool false] := by unfold divZV; rw [if_pos (.inl h0)]
    have hz : IsB (decide (enc b = 0)) true := decide_eq_true ((enc_eq_zero hb').2 h0)
    rw [e]
    clear e h0 hDV
    unfold wideV at *
    go_enter Tryz.func111, Tryz.ntmps111
    go_wp2_with (first | ((with_reducible apply ld_rowP undW infoW); exact rfl; exact rfl; exact gRow) | ((with_reducible apply st_rowP infoW); exact rfl; exact rfl; exact gRow) | ((with_reducible apply st_rowZ infoW); exact rfl; exact rfl; exact gRow) | ((with_reducible apply eqP); exact rfl; exact rfl; exact rfl; assumption; assumption; assumption) | ((with_reducible apply eqZP); exact rfl; exact rfl; exact rfl; assumption; assumption) | ((with_reducible apply neP); exact rfl; exact rfl; exact rfl; assumption; assumption; assumption) | ((with_reducible apply neZP); exact rfl; exact rfl; exact rfl; assumption; assumption))
    exact bodyPost_ret (resCCT rfl undW infoW _ _ _ rfl rfl gRow gRow) rfl ⟨rfl, gUp⟩
  · have hz : IsB (decide (enc b = 0)) false := decide_eq_false fun h => h0 ((enc_eq_zero hb').1 h)
    have hD := hDV h0
    clear hDV
    have HA := hid (fun w => amount_z ha w)
    have HB := hid (fun w => amount_z hb' w)
    have hMA := fun w => minus_z ha w
    have hMB := fun w => minus_z hb' w
    obtain ⟨sa, ea⟩ : ∃ sa, sa = decide (a < 0) := ⟨_, rfl⟩
    obtain ⟨sb, eb⟩ : ∃ sb, sb = decide (b < 0) := ⟨_, rfl⟩
    rw [← ea] at hMA
    rw [← eb] at hMB
    have HMA := hid hMA
    have HMB := hid hMB
    have hqlt : a.natAbs / b.natAbs < bp 16 := Nat.lt_of_le_of_lt (Nat.div_le_self _ _) (enc_natAbs ha).2
    have hrlt : a.natAbs % b.natAbs < bp 16 := Nat.lt_of_le_of_lt (Nat.mod_le _ _) (enc_natAbs ha).2
    have hSQ := fun w => signed_any hqlt (!(sa == sb)) w
    have hSR := fun w => signed_any hrlt sa w
    rw [pm_tdiv a b ea eb] at hSQ
    rw [pm_tmod a b ea, opt_yes (tmod_in ha)] at hSR
    have HSR := hid hSR
    unfold divV at hD
    have HD := hid hD
    clear hMA hMB ea eb hSR hD
    generalize a.natAbs / b.natAbs = q at *
    generalize a.natAbs % b.natAbs = r at *
    generalize a.natAbs = m at *
    generalize b.natAbs = n at *
    obtain ⟨er, eer⟩ : ∃ er, enc (a.tmod b) = er := ⟨_, rfl⟩
    rw [eer] at HSR
    have hER := hid eer
    clear eer
    by_cases hin : InR (a.tdiv b)
    · rw [opt_yes hin] at hSQ
      have HSQ := hid hSQ
      have e : divZV a b = .tuple #[wideV (enc (a.tdiv b)), wideV er, .bool true] := by
        unfold divZV
        rw [if_neg (fun h => h.elim h0 (fun h => h hin)), hER.out]
      rw [e]
      clear e hSQ hin h0
      generalize enc (a.tdiv b) = eq at *
      unfold wideV at *
      go_enter Tryz.func111, Tryz.ntmps111
      go_wp2_with (first | ((with_reducible apply ld_rowP undW infoW); exact rfl; exact rfl; exact gRow) | ((with_reducible apply st_rowP infoW); exact rfl; exact rfl; exact gRow) | ((with_reducible apply st_rowZ infoW); exact rfl; exact rfl; exact gRow) | ((with_reducible apply eqP); exact rfl; exact rfl; exact rfl; assumption; assumption; assumption) | ((with_reducible apply eqZP); exact rfl; exact rfl; exact rfl; assumption; assumption) | ((with_reducible apply neP); exact rfl; exact rfl; exact rfl; assumption; assumption; assumption) | ((with_reducible apply neZP); exact rfl; exact rfl; exact rfl; assumption; assumption))
      refine wp_region_upS (S := (fun wq => Row wq (w.heap.size) 33 16 (limb (enc a)) ∧ Row wq (w.heap.size + 1) 33 16 (limb (enc b)) ∧ Row wq (w.heap.size + 1 + 1) 33 16 (fun _ => 0) ∧ Row wq (w.heap.size + 1 + 1 + 1) 33 16 (fun _ => 0) ∧ Below w.heap.size w wq)) (req := (fun j => j != 10 && j != 11)) (by kernel_rfl) (fun _ _ h hu => ⟨(h.1).up hu, (h.2.1).up hu, (h.2.2.1).up hu, (h.2.2.2.1).up hu, below_up (h.2.2.2.2) hu⟩) ⟨gRow, gRow, gRow, gRow, gUp⟩ (fun wS hSS => ?_)
      have ⟨hS1, hS2, hS3, hS4, hSB⟩ := hSS
      refine wpAnyU_take (i := 0) (d := (some 19)) (v := _) rfl rfl (by kernel_rfl) (fun _ _ _ h => h) (fun _ _ h hu => ⟨(h.1).up hu, (h.2.1).up hu, (h.2.2.1).up hu, (h.2.2.2.1).up hu, below_up (h.2.2.2.2) hu⟩) hSS (Or.inl ⟨by rfl, fun w' hSw => yu_value (run_ld undW infoW _ rfl _ rfl hSw.1)⟩) ?_
      try simp only [Act.put, pu1, pu2, pu3]
      refine wpAnyU_take (i := 1) (d := (some 20)) (v := _) rfl rfl (by kernel_rfl) (fun _ _ _ h => h) (fun _ _ h hu => ⟨(h.1).up hu, (h.2.1).up hu, (h.2.2.1).up hu, (h.2.2.2.1).up hu, below_up (h.2.2.2.2) hu⟩) hSS (Or.inl ⟨by rfl, fun w' hSw => yu_call ?_ (HA.out _)⟩) ?_
      · go_simp
      try simp only [Act.put, pu1, pu2, pu3]
      refine wpAnyU_take (i := 2) (d := (some 21)) (v := _) rfl rfl (by kernel_rfl) (fun _ _ _ h => h) (fun _ _ h hu => ⟨(h.1).up hu, (h.2.1).up hu, (h.2.2.1).up hu, (h.2.2.2.1).up hu, below_up (h.2.2.2.2) hu⟩) hSS (Or.inl ⟨by rfl, fun w' hSw => yu_value (run_ld undW infoW _ rfl _ rfl hSw.2.1)⟩) ?_
      try simp only [Act.put, pu1, pu2, pu3]
      refine wpAnyU_take (i := 3) (d := (some 22)) (v := _) rfl rfl (by kernel_rfl) (fun _ _ _ h => h) (fun _ _ h hu => ⟨(h.1).up hu, (h.2.1).up hu, (h.2.2.1).up hu, (h.2.2.2.1).up hu, below_up (h.2.2.2.2) hu⟩) hSS (Or.inl ⟨by rfl, fun w' hSw => yu_call ?_ (HB.out _)⟩) ?_
      · go_simp
      try simp only [Act.put, pu1, pu2, pu3]
      refine wpAnyU_take (i := 4) (d := (some 23)) (v := _) rfl rfl (by kernel_rfl) (fun _ _ _ h => h) (fun _ _ h hu => ⟨(h.1).up hu, (h.2.1).up hu, (h.2.2.1).up hu, (h.2.2.2.1).up hu, below_up (h.2.2.2.2) hu⟩) hSS (Or.inl ⟨by rfl, fun w' hSw => yu_call ?_ (HD.out _)⟩) ?_
      · go_simp
      try simp only [Act.put, pu1, pu2, pu3]
      refine wpAnyU_pure (i := 5) (d := (some 18)) (v := ?_) rfl rfl (by kernel_rfl) (fun _ _ _ h => h) (fun _ _ h hu => ⟨(h.1).up hu, (h.2.1).up hu, (h.2.2.1).up hu, (h.2.2.2.1).up hu, below_up (h.2.2.2.2) hu⟩) (Or.inl ⟨by rfl, fun w' _ => yu_value ?_⟩) ?_
      rotate_left
      · (go_simp; (try exact rfl))
      try simp only [Act.put, pu1, pu2, pu3]
      refine wpAnyU_pure (i := 6) (d := (some 24)) (v := ?_) rfl rfl (by kernel_rfl) (fun _ _ _ h => h) (fun _ _ h hu => ⟨(h.1).up hu, (h.2.1).up hu, (h.2.2.1).up hu, (h.2.2.2.1).up hu, below_up (h.2.2.2.2) hu⟩) (Or.inl ⟨by rfl, fun w' _ => yu_value ?_⟩) ?_
      rotate_left
      · (go_simp; (try exact rfl))
      try simp only [Act.put, pu1, pu2, pu3]
      refine wpAnyU_pure (i := 7) (d := (some 25)) (v := ?_) rfl rfl (by kernel_rfl) (fun _ _ _ h => h) (fun _ _ h hu => ⟨(h.1).up hu, (h.2.1).up hu, (h.2.2.1).up hu, (h.2.2.2.1).up hu, below_up (h.2.2.2.2) hu⟩) (Or.inl ⟨by rfl, fun w' _ => yu_value ?_⟩) ?_
      rotate_left
      · (go_simp; (try exact rfl))
      try simp only [Act.put, pu1, pu2, pu3]
      refine wpAnyU_alloc2 (i := 8) (j := 9) (di := 7) (dj := 8) rfl rfl rfl rfl (by decide) rfl rfl rfl rfl (by kernel_rfl) (by kernel_rfl) (by kernel_rfl) (by decide) (fun _ _ h hu => ⟨(h.1).up hu, (h.2.1).up hu, (h.2.2.1).up hu, (h.2.2.2.1).up hu, below_up (h.2.2.2.2) hu⟩) fun w1 p q' hw1 hp hq hpq hpl hql => ?_
      try simp only [Act.put, pu1, pu2, pu3]
      have hlt := hS4.lt
      refine wpAnyU_one (i := 10) rfl (by kernel_rfl) (by rfl) fun w2 hw2 => ?_
      refine wp_st_rowN infoW rfl _ _ rfl _ rfl rfl ((hp.up hw2)) ?_
      refine ⟨fun h => by simp at h, ?_⟩
      try simp only [Act.put, pu1, pu2, pu3]
      refine wpAnyU_one (i := 11) rfl (by kernel_rfl) (by rfl) fun w3 hw3 => ?_
      refine wp_st_rowN infoW rfl _ _ rfl _ rfl rfl ((((hq.up hw2).row_other (cells 16 (limb q)) (show q' ≠ p by omega)).up hw3)) ?_
      refine ⟨fun h => by simp at h, ?_⟩
      try simp only [Act.put, pu1, pu2, pu3]
      refine wpAnyU_done (by kernel_rfl) (fun wF huE => ?_) _
      have g1 := ((((((hS1).up hw1).up hw2).row_other (cells 16 (limb q)) (show w.heap.size ≠ p by omega)).up hw3).row_other (cells 16 (limb r)) (show w.heap.size ≠ q' by omega)).up huE
      have g2 := ((((((hS2).up hw1).up hw2).row_other (cells 16 (limb q)) (show w.heap.size + 1 ≠ p by omega)).up hw3).row_other (cells 16 (limb r)) (show w.heap.size + 1 ≠ q' by omega)).up huE
      have g3 := ((((((hS3).up hw1).up hw2).row_other (cells 16 (limb q)) (show w.heap.size + 1 + 1 ≠ p by omega)).up hw3).row_other (cells 16 (limb r)) (show w.heap.size + 1 + 1 ≠ q' by omega)).up huE
      have g4 := ((((((hS4).up hw1).up hw2).row_other (cells 16 (limb q)) (show w.heap.size + 1 + 1 + 1 ≠ p by omega)).up hw3).row_other (cells 16 (limb r)) (show w.heap.size + 1 + 1 + 1 ≠ q' by omega)).up huE
      have gp := (((((hp).up hw2).setRow (limb q)).up hw3).row_other (cells 16 (limb r)) (show p ≠ q' by omega)).up huE
      have gq := (((((hq).up hw2).row_other (cells 16 (limb q)) (show q' ≠ p by omega)).up hw3).setRow (limb r)).up huE
      have gB := below_up (below_setRow (below_up (below_setRow (below_up (below_up (hSB) hw1) hw2) (show w.heap.size ≤ p by omega) (cells 16 (limb q))) hw3) (show w.heap.size ≤ q' by omega) (cells 16 (limb r))) huE
      clear hS1 hS2 hS3 hS4 hSB hSS hw1 hw2 hw3 huE hp hq
      go_wp2
      refine wp_region_upS (S := (fun wq => Row wq (w.heap.size) 33 16 (limb (enc a)) ∧ Row wq (w.heap.size + 1) 33 16 (limb (enc b)) ∧ Row wq (w.heap.size + 1 + 1) 33 16 (fun _ => 0) ∧ Row wq (w.heap.size + 1 + 1 + 1) 33 16 (fun _ => 0) ∧ Row wq p 33 16 (limb q) ∧ Row wq q' 33 16 (limb r) ∧ Below w.heap.size w wq)) (req := (fun j => j != 11)) (by kernel_rfl) (fun _ _ h hu => ⟨(h.1).up hu, (h.2.1).up hu, (h.2.2.1).up hu, (h.2.2.2.1).up hu, (h.2.2.2.2.1).up hu, (h.2.2.2.2.2.1).up hu, below_up (h.2.2.2.2.2.2) hu⟩) ⟨gRow, gRow, gRow, gRow, gRow, gRow, gUp⟩ (fun wS hSS => ?_)
      have ⟨hS1, hS2, hS3, hS4, hS5, hS6, hSB⟩ := hSS
      clear g1 g2 g3 g4 gp gq gB
      refine wpAnyU_take (i := 0) (d := (some 27)) (v := _) rfl rfl (by kernel_rfl) (fun _ _ _ h => h) (fun _ _ h hu => ⟨(h.1).up hu, (h.2.1).up hu, (h.2.2.1).up hu, (h.2.2.2.1).up hu, (h.2.2.2.2.1).up hu, (h.2.2.2.2.2.1).up hu, below_up (h.2.2.2.2.2.2) hu⟩) hSS (Or.inl ⟨by rfl, fun w' hSw => yu_value (run_ld undW infoW _ rfl _ rfl hSw.2.2.2.2.1)⟩) ?_
      try simp only [Act.put, pu1, pu2, pu3]
      refine wpAnyU_take (i := 1) (d := (some 28)) (v := _) rfl rfl (by kernel_rfl) (fun _ _ _ h => h) (fun _ _ h hu => ⟨(h.1).up hu, (h.2.1).up hu, (h.2.2.1).up hu, (h.2.2.2.1).up hu, (h.2.2.2.2.1).up hu, (h.2.2.2.2.2.1).up hu, below_up (h.2.2.2.2.2.2) hu⟩) hSS (Or.inl ⟨by rfl, fun w' hSw => yu_value (run_ld undW infoW _ rfl _ rfl hSw.1)⟩) ?_
      try simp only [Act.put, pu1, pu2, pu3]
      refine wpAnyU_take (i := 2) (d := (some 29)) (v := _) rfl rfl (by kernel_rfl) (fun _ _ _ h => h) (fun _ _ h hu => ⟨(h.1).up hu, (h.2.1).up hu, (h.2.2.1).up hu, (h.2.2.2.1).up hu, (h.2.2.2.2.1).up hu, (h.2.2.2.2.2.1).up hu, below_up (h.2.2.2.2.2.2) hu⟩) hSS (Or.inl ⟨by rfl, fun w' hSw => yu_call ?_ (HMA.out _)⟩) ?_
      · go_simp
      try simp only [Act.put, pu1, pu2, pu3]
      refine wpAnyU_take (i := 3) (d := (some 30)) (v := _) rfl rfl (by kernel_rfl) (fun _ _ _ h => h) (fun _ _ h hu => ⟨(h.1).up hu, (h.2.1).up hu, (h.2.2.1).up hu, (h.2.2.2.1).up hu, (h.2.2.2.2.1).up hu, (h.2.2.2.2.2.1).up hu, below_up (h.2.2.2.2.2.2) hu⟩) hSS (Or.inl ⟨by rfl, fun w' hSw => yu_value (run_ld undW infoW _ rfl _ rfl hSw.2.1)⟩) ?_
      try simp only [Act.put, pu1, pu2, pu3]
      refine wpAnyU_take (i := 4) (d := (some 31)) (v := _) rfl rfl (by kernel_rfl) (fun _ _ _ h => h) (fun _ _ h hu => ⟨(h.1).up hu, (h.2.1).up hu, (h.2.2.1).up hu, (h.2.2.2.1).up hu, (h.2.2.2.2.1).up hu, (h.2.2.2.2.2.1).up hu, below_up (h.2.2.2.2.2.2) hu⟩) hSS (Or.inl ⟨by rfl, fun w' hSw => yu_call ?_ (HMB.out _)⟩) ?_
      · go_simp
      try simp only [Act.put, pu1, pu2, pu3]
      refine wpAnyU_pure (i := 5) (d := (some 32)) (v := ?_) rfl rfl (by kernel_rfl) (fun _ _ _ h => h) (fun _ _ h hu => ⟨(h.1).up hu, (h.2.1).up hu, (h.2.2.1).up hu, (h.2.2.2.1).up hu, (h.2.2.2.2.1).up hu, (h.2.2.2.2.2.1).up hu, below_up (h.2.2.2.2.2.2) hu⟩) (Or.inl ⟨by rfl, fun w' _ => yu_value ?_⟩) ?_
      rotate_left
      · (go_simp; (try exact rfl))
      try simp only [Act.put, pu1, pu2, pu3]
      refine wpAnyU_take (i := 6) (d := (some 33)) (v := _) rfl rfl (by kernel_rfl) (fun _ _ _ h => h) (fun _ _ h hu => ⟨(h.1).up hu, (h.2.1).up hu, (h.2.2.1).up hu, (h.2.2.2.1).up hu, (h.2.2.2.2.1).up hu, (h.2.2.2.2.2.1).up hu, below_up (h.2.2.2.2.2.2) hu⟩) hSS (Or.inl ⟨by rfl, fun w' hSw => yu_call ?_ (HSQ.out _)⟩) ?_
      · go_simp
      try simp only [Act.put, pu1, pu2, pu3]
      refine wpAnyU_pure (i := 7) (d := (some 26)) (v := ?_) rfl rfl (by kernel_rfl) (fun _ _ _ h => h) (fun _ _ h hu => ⟨(h.1).up hu, (h.2.1).up hu, (h.2.2.1).up hu, (h.2.2.2.1).up hu, (h.2.2.2.2.1).up hu, (h.2.2.2.2.2.1).up hu, below_up (h.2.2.2.2.2.2) hu⟩) (Or.inl ⟨by rfl, fun w' _ => yu_value ?_⟩) ?_
      rotate_left
      · (go_simp; (try exact rfl))
      try simp only [Act.put, pu1, pu2, pu3]
      refine wpAnyU_pure (i := 8) (d := (some 34)) (v := ?_) rfl rfl (by kernel_rfl) (fun _ _ _ h => h) (fun _ _ h hu => ⟨(h.1).up hu, (h.2.1).up hu, (h.2.2.1).up hu, (h.2.2.2.1).up hu, (h.2.2.2.2.1).up hu, (h.2.2.2.2.2.1).up hu, below_up (h.2.2.2.2.2.2) hu⟩) (Or.inl ⟨by rfl, fun w' _ => yu_value ?_⟩) ?_
      rotate_left
      · (go_simp; (try exact rfl))
      try simp only [Act.put, pu1, pu2, pu3]
      refine wpAnyU_pure (i := 9) (d := (some 35)) (v := ?_) rfl rfl (by kernel_rfl) (fun _ _ _ h => h) (fun _ _ h hu => ⟨(h.1).up hu, (h.2.1).up hu, (h.2.2.1).up hu, (h.2.2.2.1).up hu, (h.2.2.2.2.1).up hu, (h.2.2.2.2.2.1).up hu, below_up (h.2.2.2.2.2.2) hu⟩) (Or.inl ⟨by rfl, fun w' _ => yu_value ?_⟩) ?_
      rotate_left
      · (go_simp; (try exact rfl))
      try simp only [Act.put, pu1, pu2, pu3]
      have l4 := hS4.lt
      have l5 := hS5.lt
      have l6 := hS6.lt
      refine wpAnyU_allocW (i := 10) (d := (some 9)) rfl rfl (by kernel_rfl) (by rfl) rfl (fun _ _ h hu => ⟨(h.1).up hu, (h.2.1).up hu, (h.2.2.1).up hu, (h.2.2.2.1).up hu, (h.2.2.2.2.1).up hu, (h.2.2.2.2.2.1).up hu, below_up (h.2.2.2.2.2.2) hu⟩) fun w4 hw4 => ?_
      try simp only [Act.put, pu1, pu2, pu3]
      refine wpAnyU_one (i := 11) rfl (by kernel_rfl) (by rfl) fun w5 hw5 => ?_
      refine wp_st_rowN infoW rfl _ _ rfl _ rfl rfl ((Row.up (row_newc _ 16 _ rfl) hw5)) ?_
      refine ⟨fun h => by simp at h, ?_⟩
      try simp only [Act.put, pu1, pu2, pu3]
      refine wpAnyU_pure (i := 12) (d := (some 10)) (v := ?_) rfl rfl (by kernel_rfl) (fun _ _ _ h => h) (fun _ _ h hu => ⟨(h.1).up hu, (h.2.1).up hu, (h.2.2.1).up hu, (h.2.2.2.1).up hu, (h.2.2.2.2.1).up hu, (h.2.2.2.2.2.1).up hu, below_up (h.2.2.2.2.2.2) hu⟩) (Or.inl ⟨by rfl, fun w' _ => yu_value ?_⟩) ?_
      rotate_left
      · (go_simp; (try exact rfl))
      try simp only [Act.put, pu1, pu2, pu3]
      refine wpAnyU_done (by kernel_rfl) (fun wF huE => ?_) _
      have l7 := hw4.size
      have hnew : Row (w4.alloc (.cells (cells 16 (fun _ => 0)) 33)) w4.heap.size 33 16 (fun _ => 0) := row_newc _ 16 _ rfl
      have g1 := (((((hS1).up hw4).up (Up.alloc _ _)).up hw5).row_other (cells 16 (limb eq)) (show w.heap.size ≠ w4.heap.size by omega)).up huE
      have g2 := (((((hS2).up hw4).up (Up.alloc _ _)).up hw5).row_other (cells 16 (limb eq)) (show w.heap.size + 1 ≠ w4.heap.size by omega)).up huE
      have g3 := (((((hS3).up hw4).up (Up.alloc _ _)).up hw5).row_other (cells 16 (limb eq)) (show w.heap.size + 1 + 1 ≠ w4.heap.size by omega)).up huE
      have g4 := (((((hS4).up hw4).up (Up.alloc _ _)).up hw5).row_other (cells 16 (limb eq)) (show w.heap.size + 1 + 1 + 1 ≠ w4.heap.size by omega)).up huE
      have gq := (((((hS6).up hw4).up (Up.alloc _ _)).up hw5).row_other (cells 16 (limb eq)) (show q' ≠ w4.heap.size by omega)).up huE
      have gp := (((hnew).up hw5).setRow (limb eq)).up huE
      have gB := below_up (below_setRow (below_up (below_up (below_up (hSB) hw4) (Up.alloc _ _)) hw5) (show w.heap.size ≤ w4.heap.size by omega) (cells 16 (limb eq))) huE
      clear hS1 hS2 hS3 hS4 hS5 hS6 hSB hSS hw4 hw5 huE hnew
      go_wp2
      refine wp_region_upS (S := (fun wq => Row wq (w.heap.size) 33 16 (limb (enc a)) ∧ Row wq (w.heap.size + 1 + 1) 33 16 (fun _ => 0) ∧ Row wq (w.heap.size + 1 + 1 + 1) 33 16 (fun _ => 0) ∧ Row wq w4.heap.size 33 16 (limb eq) ∧ Row wq q' 33 16 (limb r) ∧ Below w.heap.size w wq)) (req := (fun j => j != 8)) (by kernel_rfl) (fun _ _ h hu => ⟨(h.1).up hu, (h.2.1).up hu, (h.2.2.1).up hu, (h.2.2.2.1).up hu, (h.2.2.2.2.1).up hu, below_up (h.2.2.2.2.2) hu⟩) ⟨gRow, gRow, gRow, gRow, gRow, gUp⟩ (fun wS hSS => ?_)
      have ⟨hS1, hS2, hS3, hS4, hS5, hSB⟩ := hSS
      clear g1 g2 g3 g4 gp gq gB
      refine wpAnyU_take (i := 0) (d := (some 41)) (v := _) rfl rfl (by kernel_rfl) (fun _ _ _ h => h) (fun _ _ h hu => ⟨(h.1).up hu, (h.2.1).up hu, (h.2.2.1).up hu, (h.2.2.2.1).up hu, (h.2.2.2.2.1).up hu, below_up (h.2.2.2.2.2) hu⟩) hSS (Or.inl ⟨by rfl, fun w' hSw => yu_value (run_ld undW infoW _ rfl _ rfl hSw.2.2.2.2.1)⟩) ?_
      try simp only [Act.put, pu1, pu2, pu3]
      refine wpAnyU_take (i := 1) (d := (some 42)) (v := _) rfl rfl (by kernel_rfl) (fun _ _ _ h => h) (fun _ _ h hu => ⟨(h.1).up hu, (h.2.1).up hu, (h.2.2.1).up hu, (h.2.2.2.1).up hu, (h.2.2.2.2.1).up hu, below_up (h.2.2.2.2.2) hu⟩) hSS (Or.inl ⟨by rfl, fun w' hSw => yu_value (run_ld undW infoW _ rfl _ rfl hSw.1)⟩) ?_
      try simp only [Act.put, pu1, pu2, pu3]
      refine wpAnyU_take (i := 2) (d := (some 43)) (v := _) rfl rfl (by kernel_rfl) (fun _ _ _ h => h) (fun _ _ h hu => ⟨(h.1).up hu, (h.2.1).up hu, (h.2.2.1).up hu, (h.2.2.2.1).up hu, (h.2.2.2.2.1).up hu, below_up (h.2.2.2.2.2) hu⟩) hSS (Or.inl ⟨by rfl, fun w' hSw => yu_call ?_ (HMA.out _)⟩) ?_
      · go_simp
      try simp only [Act.put, pu1, pu2, pu3]
      refine wpAnyU_take (i := 3) (d := (some 44)) (v := _) rfl rfl (by kernel_rfl) (fun _ _ _ h => h) (fun _ _ h hu => ⟨(h.1).up hu, (h.2.1).up hu, (h.2.2.1).up hu, (h.2.2.2.1).up hu, (h.2.2.2.2.1).up hu, below_up (h.2.2.2.2.2) hu⟩) hSS (Or.inl ⟨by rfl, fun w' hSw => yu_call ?_ (HSR.out _)⟩) ?_
      · go_simp
      try simp only [Act.put, pu1, pu2, pu3]
      refine wpAnyU_pure (i := 4) (d := (some 40)) (v := ?_) rfl rfl (by kernel_rfl) (fun _ _ _ h => h) (fun _ _ h hu => ⟨(h.1).up hu, (h.2.1).up hu, (h.2.2.1).up hu, (h.2.2.2.1).up hu, (h.2.2.2.2.1).up hu, below_up (h.2.2.2.2.2) hu⟩) (Or.inl ⟨by rfl, fun w' _ => yu_value ?_⟩) ?_
      rotate_left
      · (go_simp; (try exact rfl))
      try simp only [Act.put, pu1, pu2, pu3]
      refine wpAnyU_pure (i := 5) (d := (some 45)) (v := ?_) rfl rfl (by kernel_rfl) (fun _ _ _ h => h) (fun _ _ h hu => ⟨(h.1).up hu, (h.2.1).up hu, (h.2.2.1).up hu, (h.2.2.2.1).up hu, (h.2.2.2.2.1).up hu, below_up (h.2.2.2.2.2) hu⟩) (Or.inl ⟨by rfl, fun w' _ => yu_value ?_⟩) ?_
      rotate_left
      · (go_simp; (try exact rfl))
      try simp only [Act.put, pu1, pu2, pu3]
      refine wpAnyU_pure (i := 6) (d := (some 46)) (v := ?_) rfl rfl (by kernel_rfl) (fun _ _ _ h => h) (fun _ _ h hu => ⟨(h.1).up hu, (h.2.1).up hu, (h.2.2.1).up hu, (h.2.2.2.1).up hu, (h.2.2.2.2.1).up hu, below_up (h.2.2.2.2.2) hu⟩) (Or.inl ⟨by rfl, fun w' _ => yu_value ?_⟩) ?_
      rotate_left
      · (go_simp; (try exact rfl))
      try simp only [Act.put, pu1, pu2, pu3]
      have m3 := hS3.lt
      have m4 := hS4.lt
      have m5 := hS5.lt
      refine wpAnyU_allocW (i := 7) (d := (some 11)) rfl rfl (by kernel_rfl) (by rfl) rfl (fun _ _ h hu => ⟨(h.1).up hu, (h.2.1).up hu, (h.2.2.1).up hu, (h.2.2.2.1).up hu, (h.2.2.2.2.1).up hu, below_up (h.2.2.2.2.2) hu⟩) fun w6 hw6 => ?_
      try simp only [Act.put, pu1, pu2, pu3]
      refine wpAnyU_one (i := 8) rfl (by kernel_rfl) (by rfl) fun w7 hw7 => ?_
      refine wp_st_rowN infoW rfl _ _ rfl _ rfl rfl ((Row.up (row_newc _ 16 _ rfl) hw7)) ?_
      refine ⟨fun h => by simp at h, ?_⟩
      try simp only [Act.put, pu1, pu2, pu3]
      refine wpAnyU_pure (i := 9) (d := (some 12)) (v := ?_) rfl rfl (by kernel_rfl) (fun _ _ _ h => h) (fun _ _ h hu => ⟨(h.1).up hu, (h.2.1).up hu, (h.2.2.1).up hu, (h.2.2.2.1).up hu, (h.2.2.2.2.1).up hu, below_up (h.2.2.2.2.2) hu⟩) (Or.inl ⟨by rfl, fun w' _ => yu_value ?_⟩) ?_
      rotate_left
      · (go_simp; (try exact rfl))
      try simp only [Act.put, pu1, pu2, pu3]
      refine wpAnyU_done (by kernel_rfl) (fun wF huE => ?_) _
      have m7 := hw6.size
      have hnew : Row (w6.alloc (.cells (cells 16 (fun _ => 0)) 33)) w6.heap.size 33 16 (fun _ => 0) := row_newc _ 16 _ rfl
      have g3 := (((((hS2).up hw6).up (Up.alloc _ _)).up hw7).row_other (cells 16 (limb er)) (show w.heap.size + 1 + 1 ≠ w6.heap.size by omega)).up huE
      have g4 := (((((hS3).up hw6).up (Up.alloc _ _)).up hw7).row_other (cells 16 (limb er)) (show w.heap.size + 1 + 1 + 1 ≠ w6.heap.size by omega)).up huE
      have gp := (((((hS4).up hw6).up (Up.alloc _ _)).up hw7).row_other (cells 16 (limb er)) (show w4.heap.size ≠ w6.heap.size by omega)).up huE
      have gr := (((hnew).up hw7).setRow (limb er)).up huE
      have gB := below_up (below_setRow (below_up (below_up (below_up (hSB) hw6) (Up.alloc _ _)) hw7) (show w.heap.size ≤ w6.heap.size by omega) (cells 16 (limb er))) huE
      clear hS1 hS2 hS3 hS4 hS5 hSB hSS hw6 hw7 huE hnew
      go_wp2
      refine wp_region_upS (S := (fun wq => Row wq w4.heap.size 33 16 (limb eq) ∧ Row wq w6.heap.size 33 16 (limb er) ∧ ExRow wq (w.heap.size + 1 + 1) 33 16 ∧ ExRow wq (w.heap.size + 1 + 1 + 1) 33 16 ∧ Below w.heap.size w wq)) (req := (fun j => j != 3)) (by kernel_rfl) (fun _ _ h hu => ⟨(h.1).up hu, (h.2.1).up hu, (h.2.2.1).up hu, (h.2.2.2.1).up hu, below_up (h.2.2.2.2) hu⟩) ⟨gRow, gRow, ⟨_, gRow⟩, ⟨_, gRow⟩, gUp⟩ (fun wS hSS => ?_)
      have ⟨hS1, hS2, hS3, hS4, hSB⟩ := hSS
      clear g3 g4 gp gr gB
      refine wpAnyU_take (i := 0) (d := (some 47)) (v := _) rfl rfl (by kernel_rfl) (fun _ _ _ h => h) (fun _ _ h hu => ⟨(h.1).up hu, (h.2.1).up hu, (h.2.2.1).up hu, (h.2.2.2.1).up hu, below_up (h.2.2.2.2) hu⟩) hSS (Or.inl ⟨by rfl, fun w' hSw => yu_value (run_ld undW infoW _ rfl _ rfl hSw.1)⟩) ?_
      try simp only [Act.put, pu1, pu2, pu3]
      refine wpAnyU_take (i := 1) (d := (some 48)) (v := _) rfl rfl (by kernel_rfl) (fun _ _ _ h => h) (fun _ _ h hu => ⟨(h.1).up hu, (h.2.1).up hu, (h.2.2.1).up hu, (h.2.2.2.1).up hu, below_up (h.2.2.2.2) hu⟩) hSS (Or.inl ⟨by rfl, fun w' hSw => yu_value (run_ld undW infoW _ rfl _ rfl hSw.2.1)⟩) ?_
      try simp only [Act.put, pu1, pu2, pu3]
      obtain ⟨v3, hS3⟩ := hS3
      obtain ⟨v4, hS4⟩ := hS4
      refine wpAnyU_one (i := 2) rfl (by kernel_rfl) (by rfl) fun w8 hw8 => ?_
      refine wp_st_rowN infoW rfl _ _ rfl _ rfl rfl (hS3.up hw8) ?_
      refine ⟨fun _ h => ⟨h.1.row_other _ (by omega), h.2.1.row_other _ (by omega), h.2.2.1.st _, h.2.2.2.1.st _, below_setRow h.2.2.2.2 (by omega) _⟩, ?_⟩
      refine wpAnyU_one (i := 3) rfl (by kernel_rfl) (by rfl) fun w9 hw9 => ?_
      refine wp_st_rowN infoW rfl _ _ rfl _ rfl rfl ((Row.up (((hS4.up hw8).row_other (cells 16 (limb eq)) (show w.heap.size + 1 + 1 + 1 ≠ w.heap.size + 1 + 1 by omega))) hw9)) ?_
      refine ⟨fun h => by simp at h, ?_⟩
      try simp only [Act.put, pu1, pu2, pu3]
      refine wpAnyU_pure (i := 4) (d := (some 6)) (v := ?_) rfl rfl (by kernel_rfl) (fun _ _ _ h => h) (fun _ _ h hu => ⟨(h.1).up hu, (h.2.1).up hu, (h.2.2.1).up hu, (h.2.2.2.1).up hu, below_up (h.2.2.2.2) hu⟩) (Or.inl ⟨by rfl, fun w' _ => yu_value ?_⟩) ?_
      rotate_left
      · (go_simp; (try exact rfl))
      try simp only [Act.put, pu1, pu2, pu3]
      refine wpAnyU_done (by kernel_rfl) (fun wF huE => ?_) _
      have gA := (((((hS3).up hw8).setRow (limb eq)).up hw9).row_other (cells 16 (limb er)) (show w.heap.size + 1 + 1 ≠ w.heap.size + 1 + 1 + 1 by omega)).up huE
      have gC := (((((hS4).up hw8).row_other (cells 16 (limb eq)) (show w.heap.size + 1 + 1 + 1 ≠ w.heap.size + 1 + 1 by omega)).up hw9).setRow (limb er)).up huE
      have gB := below_up (below_setRow (below_up (below_setRow (below_up (hSB) hw8) (show w.heap.size ≤ w.heap.size + 1 + 1 by omega) (cells 16 (limb eq))) hw9) (show w.heap.size ≤ w.heap.size + 1 + 1 + 1 by omega) (cells 16 (limb er))) huE
      clear hS1 hS2 hS3 hS4 hSB hSS hw8 hw9 huE
      go_wp2
      exact bodyPost_ret (resCCT rfl undW infoW _ _ _ rfl rfl gA gC) rfl ⟨rfl, gB⟩
    · rw [opt_no hin] at hSQ
      have HSQ := hid hSQ
      have e : divZV a b = .tuple #[.agg (cells 16 (fun _ => 0)), .agg (cells 16 (fun _ => 0)), .bool false] := by unfold divZV; rw [if_pos (.inr hin)]
      rw [e]
      clear e hSQ hin h0
      unfold wideV at *
      go_enter Tryz.func111, Tryz.ntmps111
      go_wp2_with (first | ((with_reducible apply ld_rowP undW infoW); exact rfl; exact rfl; exact gRow) | ((with_reducible apply st_rowP infoW); exact rfl; exact rfl; exact gRow) | ((with_reducible apply st_rowZ infoW); exact rfl; exact rfl; exact gRow) | ((with_reducible apply eqP); exact rfl; exact rfl; exact rfl; assumption; assumption; assumption) | ((with_reducible apply eqZP); exact rfl; exact rfl; exact rfl; assumption; assumption) | ((with_reducible apply neP); exact rfl; exact rfl; exact rfl; assumption; assumption; assumption) | ((with_reducible apply neZP); exact rfl; exact rfl; exact rfl; assumption; assumption))
      refine wp_region_upS (S := (fun wq => Row wq (w.heap.size) 33 16 (limb (enc a)) ∧ Row wq (w.heap.size + 1) 33 16 (limb (enc b)) ∧ Row wq (w.heap.size + 1 + 1) 33 16 (fun _ => 0) ∧ Row wq (w.heap.size + 1 + 1 + 1) 33 16 (fun _ => 0) ∧ Below w.heap.size w wq)) (req := (fun j => j != 10 && j != 11)) (by kernel_rfl) (fun _ _ h hu => ⟨(h.1).up hu, (h.2.1).up hu, (h.2.2.1).up hu, (h.2.2.2.1).up hu, below_up (h.2.2.2.2) hu⟩) ⟨gRow, gRow, gRow, gRow, gUp⟩ (fun wS hSS => ?_)
      have ⟨hS1, hS2, hS3, hS4, hSB⟩ := hSS
      refine wpAnyU_take (i := 0) (d := (some 19)) (v := _) rfl rfl (by kernel_rfl) (fun _ _ _ h => h) (fun _ _ h hu => ⟨(h.1).up hu, (h.2.1).up hu, (h.2.2.1).up hu, (h.2.2.2.1).up hu, below_up (h.2.2.2.2) hu⟩) hSS (Or.inl ⟨by rfl, fun w' hSw => yu_value (run_ld undW infoW _ rfl _ rfl hSw.1)⟩) ?_
      try simp only [Act.put, pu1, pu2, pu3]
      refine wpAnyU_take (i := 1) (d := (some 20)) (v := _) rfl rfl (by kernel_rfl) (fun _ _ _ h => h) (fun _ _ h hu => ⟨(h.1).up hu, (h.2.1).up hu, (h.2.2.1).up hu, (h.2.2.2.1).up hu, below_up (h.2.2.2.2) hu⟩) hSS (Or.inl ⟨by rfl, fun w' hSw => yu_call ?_ (HA.out _)⟩) ?_
      · go_simp
      try simp only [Act.put, pu1, pu2, pu3]
      refine wpAnyU_take (i := 2) (d := (some 21)) (v := _) rfl rfl (by kernel_rfl) (fun _ _ _ h => h) (fun _ _ h hu => ⟨(h.1).up hu, (h.2.1).up hu, (h.2.2.1).up hu, (h.2.2.2.1).up hu, below_up (h.2.2.2.2) hu⟩) hSS (Or.inl ⟨by rfl, fun w' hSw => yu_value (run_ld undW infoW _ rfl _ rfl hSw.2.1)⟩) ?_
      try simp only [Act.put, pu1, pu2, pu3]
      refine wpAnyU_take (i := 3) (d := (some 22)) (v := _) rfl rfl (by kernel_rfl) (fun _ _ _ h => h) (fun _ _ h hu => ⟨(h.1).up hu, (h.2.1).up hu, (h.2.2.1).up hu, (h.2.2.2.1).up hu, below_up (h.2.2.2.2) hu⟩) hSS (Or.inl ⟨by rfl, fun w' hSw => yu_call ?_ (HB.out _)⟩) ?_
      · go_simp
      try simp only [Act.put, pu1, pu2, pu3]
      refine wpAnyU_take (i := 4) (d := (some 23)) (v := _) rfl rfl (by kernel_rfl) (fun _ _ _ h => h) (fun _ _ h hu => ⟨(h.1).up hu, (h.2.1).up hu, (h.2.2.1).up hu, (h.2.2.2.1).up hu, below_up (h.2.2.2.2) hu⟩) hSS (Or.inl ⟨by rfl, fun w' hSw => yu_call ?_ (HD.out _)⟩) ?_
      · go_simp
      try simp only [Act.put, pu1, pu2, pu3]
      refine wpAnyU_pure (i := 5) (d := (some 18)) (v := ?_) rfl rfl (by kernel_rfl) (fun _ _ _ h => h) (fun _ _ h hu => ⟨(h.1).up hu, (h.2.1).up hu, (h.2.2.1).up hu, (h.2.2.2.1).up hu, below_up (h.2.2.2.2) hu⟩) (Or.inl ⟨by rfl, fun w' _ => yu_value ?_⟩) ?_
      rotate_left
      · (go_simp; (try exact rfl))
      try simp only [Act.put, pu1, pu2, pu3]
      refine wpAnyU_pure (i := 6) (d := (some 24)) (v := ?_) rfl rfl (by kernel_rfl) (fun _ _ _ h => h) (fun _ _ h hu => ⟨(h.1).up hu, (h.2.1).up hu, (h.2.2.1).up hu, (h.2.2.2.1).up hu, below_up (h.2.2.2.2) hu⟩) (Or.inl ⟨by rfl, fun w' _ => yu_value ?_⟩) ?_
      rotate_left
      · (go_simp; (try exact rfl))
      try simp only [Act.put, pu1, pu2, pu3]
      refine wpAnyU_pure (i := 7) (d := (some 25)) (v := ?_) rfl rfl (by kernel_rfl) (fun _ _ _ h => h) (fun _ _ h hu => ⟨(h.1).up hu, (h.2.1).up hu, (h.2.2.1).up hu, (h.2.2.2.1).up hu, below_up (h.2.2.2.2) hu⟩) (Or.inl ⟨by rfl, fun w' _ => yu_value ?_⟩) ?_
      rotate_left
      · (go_simp; (try exact rfl))
      try simp only [Act.put, pu1, pu2, pu3]
      refine wpAnyU_alloc2 (i := 8) (j := 9) (di := 7) (dj := 8) rfl rfl rfl rfl (by decide) rfl rfl rfl rfl (by kernel_rfl) (by kernel_rfl) (by kernel_rfl) (by decide) (fun _ _ h hu => ⟨(h.1).up hu, (h.2.1).up hu, (h.2.2.1).up hu, (h.2.2.2.1).up hu, below_up (h.2.2.2.2) hu⟩) fun w1 p q' hw1 hp hq hpq hpl hql => ?_
      try simp only [Act.put, pu1, pu2, pu3]
      have hlt := hS4.lt
      refine wpAnyU_one (i := 10) rfl (by kernel_rfl) (by rfl) fun w2 hw2 => ?_
      refine wp_st_rowN infoW rfl _ _ rfl _ rfl rfl ((hp.up hw2)) ?_
      refine ⟨fun h => by simp at h, ?_⟩
      try simp only [Act.put, pu1, pu2, pu3]
      refine wpAnyU_one (i := 11) rfl (by kernel_rfl) (by rfl) fun w3 hw3 => ?_
      refine wp_st_rowN infoW rfl _ _ rfl _ rfl rfl ((((hq.up hw2).row_other (cells 16 (limb q)) (show q' ≠ p by omega)).up hw3)) ?_
      refine ⟨fun h => by simp at h, ?_⟩
      try simp only [Act.put, pu1, pu2, pu3]
      refine wpAnyU_done (by kernel_rfl) (fun wF huE => ?_) _
      have g1 := ((((((hS1).up hw1).up hw2).row_other (cells 16 (limb q)) (show w.heap.size ≠ p by omega)).up hw3).row_other (cells 16 (limb r)) (show w.heap.size ≠ q' by omega)).up huE
      have g2 := ((((((hS2).up hw1).up hw2).row_other (cells 16 (limb q)) (show w.heap.size + 1 ≠ p by omega)).up hw3).row_other (cells 16 (limb r)) (show w.heap.size + 1 ≠ q' by omega)).up huE
      have g3 := ((((((hS3).up hw1).up hw2).row_other (cells 16 (limb q)) (show w.heap.size + 1 + 1 ≠ p by omega)).up hw3).row_other (cells 16 (limb r)) (show w.heap.size + 1 + 1 ≠ q' by omega)).up huE
      have g4 := ((((((hS4).up hw1).up hw2).row_other (cells 16 (limb q)) (show w.heap.size + 1 + 1 + 1 ≠ p by omega)).up hw3).row_other (cells 16 (limb r)) (show w.heap.size + 1 + 1 + 1 ≠ q' by omega)).up huE
      have gp := (((((hp).up hw2).setRow (limb q)).up hw3).row_other (cells 16 (limb r)) (show p ≠ q' by omega)).up huE
      have gq := (((((hq).up hw2).row_other (cells 16 (limb q)) (show q' ≠ p by omega)).up hw3).setRow (limb r)).up huE
      have gB := below_up (below_setRow (below_up (below_setRow (below_up (below_up (hSB) hw1) hw2) (show w.heap.size ≤ p by omega) (cells 16 (limb q))) hw3) (show w.heap.size ≤ q' by omega) (cells 16 (limb r))) huE
      clear hS1 hS2 hS3 hS4 hSB hSS hw1 hw2 hw3 huE hp hq
      go_wp2
      refine wp_region_upS (S := (fun wq => Row wq (w.heap.size) 33 16 (limb (enc a)) ∧ Row wq (w.heap.size + 1) 33 16 (limb (enc b)) ∧ Row wq (w.heap.size + 1 + 1) 33 16 (fun _ => 0) ∧ Row wq (w.heap.size + 1 + 1 + 1) 33 16 (fun _ => 0) ∧ Row wq p 33 16 (limb q) ∧ Row wq q' 33 16 (limb r) ∧ Below w.heap.size w wq)) (req := (fun j => j != 11)) (by kernel_rfl) (fun _ _ h hu => ⟨(h.1).up hu, (h.2.1).up hu, (h.2.2.1).up hu, (h.2.2.2.1).up hu, (h.2.2.2.2.1).up hu, (h.2.2.2.2.2.1).up hu, below_up (h.2.2.2.2.2.2) hu⟩) ⟨gRow, gRow, gRow, gRow, gRow, gRow, gUp⟩ (fun wS hSS => ?_)
      have ⟨hS1, hS2, hS3, hS4, hS5, hS6, hSB⟩ := hSS
      clear g1 g2 g3 g4 gp gq gB
      refine wpAnyU_take (i := 0) (d := (some 27)) (v := _) rfl rfl (by kernel_rfl) (fun _ _ _ h => h) (fun _ _ h hu => ⟨(h.1).up hu, (h.2.1).up hu, (h.2.2.1).up hu, (h.2.2.2.1).up hu, (h.2.2.2.2.1).up hu, (h.2.2.2.2.2.1).up hu, below_up (h.2.2.2.2.2.2) hu⟩) hSS (Or.inl ⟨by rfl, fun w' hSw => yu_value (run_ld undW infoW _ rfl _ rfl hSw.2.2.2.2.1)⟩) ?_
      try simp only [Act.put, pu1, pu2, pu3]
      refine wpAnyU_take (i := 1) (d := (some 28)) (v := _) rfl rfl (by kernel_rfl) (fun _ _ _ h => h) (fun _ _ h hu => ⟨(h.1).up hu, (h.2.1).up hu, (h.2.2.1).up hu, (h.2.2.2.1).up hu, (h.2.2.2.2.1).up hu, (h.2.2.2.2.2.1).up hu, below_up (h.2.2.2.2.2.2) hu⟩) hSS (Or.inl ⟨by rfl, fun w' hSw => yu_value (run_ld undW infoW _ rfl _ rfl hSw.1)⟩) ?_
      try simp only [Act.put, pu1, pu2, pu3]
      refine wpAnyU_take (i := 2) (d := (some 29)) (v := _) rfl rfl (by kernel_rfl) (fun _ _ _ h => h) (fun _ _ h hu => ⟨(h.1).up hu, (h.2.1).up hu, (h.2.2.1).up hu, (h.2.2.2.1).up hu, (h.2.2.2.2.1).up hu, (h.2.2.2.2.2.1).up hu, below_up (h.2.2.2.2.2.2) hu⟩) hSS (Or.inl ⟨by rfl, fun w' hSw => yu_call ?_ (HMA.out _)⟩) ?_
      · go_simp
      try simp only [Act.put, pu1, pu2, pu3]
      refine wpAnyU_take (i := 3) (d := (some 30)) (v := _) rfl rfl (by kernel_rfl) (fun _ _ _ h => h) (fun _ _ h hu => ⟨(h.1).up hu, (h.2.1).up hu, (h.2.2.1).up hu, (h.2.2.2.1).up hu, (h.2.2.2.2.1).up hu, (h.2.2.2.2.2.1).up hu, below_up (h.2.2.2.2.2.2) hu⟩) hSS (Or.inl ⟨by rfl, fun w' hSw => yu_value (run_ld undW infoW _ rfl _ rfl hSw.2.1)⟩) ?_
      try simp only [Act.put, pu1, pu2, pu3]
      refine wpAnyU_take (i := 4) (d := (some 31)) (v := _) rfl rfl (by kernel_rfl) (fun _ _ _ h => h) (fun _ _ h hu => ⟨(h.1).up hu, (h.2.1).up hu, (h.2.2.1).up hu, (h.2.2.2.1).up hu, (h.2.2.2.2.1).up hu, (h.2.2.2.2.2.1).up hu, below_up (h.2.2.2.2.2.2) hu⟩) hSS (Or.inl ⟨by rfl, fun w' hSw => yu_call ?_ (HMB.out _)⟩) ?_
      · go_simp
      try simp only [Act.put, pu1, pu2, pu3]
      refine wpAnyU_pure (i := 5) (d := (some 32)) (v := ?_) rfl rfl (by kernel_rfl) (fun _ _ _ h => h) (fun _ _ h hu => ⟨(h.1).up hu, (h.2.1).up hu, (h.2.2.1).up hu, (h.2.2.2.1).up hu, (h.2.2.2.2.1).up hu, (h.2.2.2.2.2.1).up hu, below_up (h.2.2.2.2.2.2) hu⟩) (Or.inl ⟨by rfl, fun w' _ => yu_value ?_⟩) ?_
      rotate_left
      · (go_simp; (try exact rfl))
      try simp only [Act.put, pu1, pu2, pu3]
      refine wpAnyU_take (i := 6) (d := (some 33)) (v := _) rfl rfl (by kernel_rfl) (fun _ _ _ h => h) (fun _ _ h hu => ⟨(h.1).up hu, (h.2.1).up hu, (h.2.2.1).up hu, (h.2.2.2.1).up hu, (h.2.2.2.2.1).up hu, (h.2.2.2.2.2.1).up hu, below_up (h.2.2.2.2.2.2) hu⟩) hSS (Or.inl ⟨by rfl, fun w' hSw => yu_call ?_ (HSQ.out _)⟩) ?_
      · go_simp
      try simp only [Act.put, pu1, pu2, pu3]
      refine wpAnyU_pure (i := 7) (d := (some 26)) (v := ?_) rfl rfl (by kernel_rfl) (fun _ _ _ h => h) (fun _ _ h hu => ⟨(h.1).up hu, (h.2.1).up hu, (h.2.2.1).up hu, (h.2.2.2.1).up hu, (h.2.2.2.2.1).up hu, (h.2.2.2.2.2.1).up hu, below_up (h.2.2.2.2.2.2) hu⟩) (Or.inl ⟨by rfl, fun w' _ => yu_value ?_⟩) ?_
      rotate_left
      · (go_simp; (try exact rfl))
      try simp only [Act.put, pu1, pu2, pu3]
      refine wpAnyU_pure (i := 8) (d := (some 34)) (v := ?_) rfl rfl (by kernel_rfl) (fun _ _ _ h => h) (fun _ _ h hu => ⟨(h.1).up hu, (h.2.1).up hu, (h.2.2.1).up hu, (h.2.2.2.1).up hu, (h.2.2.2.2.1).up hu, (h.2.2.2.2.2.1).up hu, below_up (h.2.2.2.2.2.2) hu⟩) (Or.inl ⟨by rfl, fun w' _ => yu_value ?_⟩) ?_
      rotate_left
      · (go_simp; (try exact rfl))
      try simp only [Act.put, pu1, pu2, pu3]
      refine wpAnyU_pure (i := 9) (d := (some 35)) (v := ?_) rfl rfl (by kernel_rfl) (fun _ _ _ h => h) (fun _ _ h hu => ⟨(h.1).up hu, (h.2.1).up hu, (h.2.2.1).up hu, (h.2.2.2.1).up hu, (h.2.2.2.2.1).up hu, (h.2.2.2.2.2.1).up hu, below_up (h.2.2.2.2.2.2) hu⟩) (Or.inl ⟨by rfl, fun w' _ => yu_value ?_⟩) ?_
      rotate_left
      · (go_simp; (try exact rfl))
      try simp only [Act.put, pu1, pu2, pu3]
      have l4 := hS4.lt
      have l5 := hS5.lt
      have l6 := hS6.lt
      refine wpAnyU_allocW (i := 10) (d := (some 9)) rfl rfl (by kernel_rfl) (by rfl) rfl (fun _ _ h hu => ⟨(h.1).up hu, (h.2.1).up hu, (h.2.2.1).up hu, (h.2.2.2.1).up hu, (h.2.2.2.2.1).up hu, (h.2.2.2.2.2.1).up hu, below_up (h.2.2.2.2.2.2) hu⟩) fun w4 hw4 => ?_
      try simp only [Act.put, pu1, pu2, pu3]
      refine wpAnyU_one (i := 11) rfl (by kernel_rfl) (by rfl) fun w5 hw5 => ?_
      refine wp_st_rowN infoW rfl _ _ rfl _ rfl rfl ((Row.up (row_newc _ 16 _ rfl) hw5)) ?_
      refine ⟨fun h => by simp at h, ?_⟩
      try simp only [Act.put, pu1, pu2, pu3]
      refine wpAnyU_pure (i := 12) (d := (some 10)) (v := ?_) rfl rfl (by kernel_rfl) (fun _ _ _ h => h) (fun _ _ h hu => ⟨(h.1).up hu, (h.2.1).up hu, (h.2.2.1).up hu, (h.2.2.2.1).up hu, (h.2.2.2.2.1).up hu, (h.2.2.2.2.2.1).up hu, below_up (h.2.2.2.2.2.2) hu⟩) (Or.inl ⟨by rfl, fun w' _ => yu_value ?_⟩) ?_
      rotate_left
      · (go_simp; (try exact rfl))
      try simp only [Act.put, pu1, pu2, pu3]
      refine wpAnyU_done (by kernel_rfl) (fun wF huE => ?_) _
      have l7 := hw4.size
      have hnew : Row (w4.alloc (.cells (cells 16 (fun _ => 0)) 33)) w4.heap.size 33 16 (fun _ => 0) := row_newc _ 16 _ rfl
      have g1 := (((((hS1).up hw4).up (Up.alloc _ _)).up hw5).row_other (cells 16 (fun _ => 0)) (show w.heap.size ≠ w4.heap.size by omega)).up huE
      have g2 := (((((hS2).up hw4).up (Up.alloc _ _)).up hw5).row_other (cells 16 (fun _ => 0)) (show w.heap.size + 1 ≠ w4.heap.size by omega)).up huE
      have g3 := (((((hS3).up hw4).up (Up.alloc _ _)).up hw5).row_other (cells 16 (fun _ => 0)) (show w.heap.size + 1 + 1 ≠ w4.heap.size by omega)).up huE
      have g4 := (((((hS4).up hw4).up (Up.alloc _ _)).up hw5).row_other (cells 16 (fun _ => 0)) (show w.heap.size + 1 + 1 + 1 ≠ w4.heap.size by omega)).up huE
      have gq := (((((hS6).up hw4).up (Up.alloc _ _)).up hw5).row_other (cells 16 (fun _ => 0)) (show q' ≠ w4.heap.size by omega)).up huE
      have gp := (((hnew).up hw5).setRow (fun _ => 0)).up huE
      have gB := below_up (below_setRow (below_up (below_up (below_up (hSB) hw4) (Up.alloc _ _)) hw5) (show w.heap.size ≤ w4.heap.size by omega) (cells 16 (fun _ => 0))) huE
      clear hS1 hS2 hS3 hS4 hS5 hS6 hSB hSS hw4 hw5 huE hnew
      go_wp2_with (first | ((with_reducible apply st_rowP infoW); exact rfl; exact rfl; exact gRow) | ((with_reducible apply st_rowZ infoW); exact rfl; exact rfl; exact gRow))
      exact bodyPost_ret (resCCT rfl undW infoW _ _ _ rfl rfl gRow gRow) rfl ⟨rfl, gUp⟩
theorem op_eqS {o : Oper} {a : Act} {x y : Operand} {u : TypeId} (ho : o.op = .binOp .eql 33 x y u) {p : Nat} (hx : a.eval x = .agg (cells 16 (limb p))) (hy : a.eval y = .agg (cells 16 (limb p))) (hp : p < bp 16) (w : World) :
    (execOp a.eval o).run Tryz.prog w = .ok (.value (.bool true)) w := by
  have h := op_eqW ho hx hy hp hp w
  simpa using h
end Go.Proofs.YtnpaodlhhcnbgaaGreatDoor
namespace Go.Proofs.YtnpaodlhhcnbgaaGreatDoor
open Go Go.RowKit Go.ChangeShapes
theorem hb_pow (i : Nat) (h : i = 1023) : hb = 2 ^ i := by
  have h1 := bp16
  rw [bp_two, show 64 * 16 = i + 1 by omega, Nat.pow_succ] at h1
  omega
section
variable {H : Type} {enc : TypeId × Value → H} {P : Program}
end
end Go.Proofs.YtnpaodlhhcnbgaaGreatDoor
namespace Go.Proofs.YtnpaodlhhcnbgaaGreatDoor
open Go Go.RowKit
set_option maxRecDepth 100000
theorem lt_bp_self (x : Nat) : x < bp x := by
  induction x with
  | zero => rw [bp_zero]; omega
  | succ n ih => rw [bp_succ]; omega
def nl (x : Nat) : Nat := lenL (limb x) x
theorem sum_len {x N : Nat} (h : x < bp N) : sumL (limb x) (lenL (limb x) N) = x := by
  rw [lenL_sum, sumL_limb, Nat.mod_eq_of_lt h]
theorem lt_bp_len {x N : Nat} (h : x < bp N) : x < bp (lenL (limb x) N) := by
  have h1 := sum_len h
  have h2 := sumL_lt (f := limb x) (k := lenL (limb x) N) fun i _ => limb_lt x i
  omega
theorem nl_eq {x N : Nat} (h : x < bp N) : lenL (limb x) N = nl x := by
  have h1 := lt_bp_len h
  have h2 := lenL_top (limb x) N
  have hle : lenL (limb x) N ≤ x ∨ lenL (limb x) N = 0 := by
    rcases Nat.eq_zero_or_pos (lenL (limb x) N) with h0 | h0
    · exact .inr h0
    · have h3 := bp_le_of_len (limb x) N h0
      rw [sumL_limb, Nat.mod_eq_of_lt h] at h3
      have h4 := lt_bp_self (lenL (limb x) N - 1)
      exact .inl (by omega)
  refine (lenL_of (limb x) (by omega) (fun i hi _ => limb_of_small h1 hi) ?_).symm
  rcases Nat.eq_zero_or_pos (lenL (limb x) N) with h0 | h0
  · exact .inl h0
  · exact .inr (h2 h0)
theorem lt_bp_nl (x : Nat) : x < bp (nl x) := lt_bp_len (lt_bp_self x)
theorem bp_le_nl {x : Nat} (h : 0 < nl x) : bp (nl x - 1) ≤ x := by
  have h3 := bp_le_of_len (limb x) x h
  rw [sumL_limb, Nat.mod_eq_of_lt (lt_bp_self x)] at h3
  exact h3
theorem nl_le {x k : Nat} (h : x < bp k) : nl x ≤ k := by rw [← nl_eq h]; exact lenL_le _ _
theorem nl_zero : nl 0 = 0 := rfl
theorem nl_pos {x : Nat} (h : 0 < x) : 0 < nl x := by
  rcases Nat.eq_zero_or_pos (nl x) with h0 | h0
  · have := lt_bp_nl x
    rw [h0, bp_zero] at this
    omega
  · exact h0
theorem nl_pos_iff {x : Nat} : 0 < nl x ↔ 0 < x := by
  constructor
  · intro h
    rcases Nat.eq_zero_or_pos x with h0 | h0
    · subst h0; simp [nl_zero] at h
    · exact h0
  · exact nl_pos
theorem limb_nl {x i : Nat} (h : nl x ≤ i) : limb x i = 0 := limb_of_small (lt_bp_nl x) h
theorem sum_nl (x : Nat) : sumL (limb x) (nl x) = x := sum_len (lt_bp_self x)
theorem nl_sum {S : Nat → Nat} {n : Nat} (hS : ∀ i, i < n → S i < 18446744073709551616) : nl (sumL S n) = lenL S n := by
  rw [← nl_eq (sumL_lt hS)]
  exact lenL_congr fun i hi => limb_sumL hS hi
def Am (w : World) (v : Value) (x : Nat) : Prop :=
  ∃ a c, v = .slice a (nl x) c ∧ nl x ≤ c ∧ (0 < nl x → ∃ b C, a = some ⟨b, 0, none⟩ ∧ Blk w b 31 C ∧ ∀ i, i < nl x → C[i]? = some (.int .u64 (limb x i : Nat)))
theorem Am.up {w w' : World} {v : Value} {x : Nat} (h : Am w v x) (hu : Up w w') : Am w' v x := by
  obtain ⟨a, c, h1, h2, h3⟩ := h
  refine ⟨a, c, h1, h2, fun h0 => ?_⟩
  obtain ⟨b, C, h4, h6, h7⟩ := h3 h0
  exact ⟨b, C, h4, h6.up hu, h7⟩
theorem Am.open {w : World} {v : Value} {x : Nat} (h : Am w v x) : ∃ a c, v = .slice a (nl x) c ∧ nl x ≤ c ∧
    ∀ i, i < nl x → ∃ b, a = some ⟨b, 0, none⟩ ∧ b < w.heap.size ∧ ∀ w', Up w w' → w'.cell? ⟨b, i, none⟩ = some (.int .u64 (limb x i : Nat)) := by
  obtain ⟨a, c, h1, h2, h3⟩ := h
  refine ⟨a, c, h1, h2, fun i hi => ?_⟩
  obtain ⟨b, C, h4, h6, h7⟩ := h3 (by omega)
  exact ⟨b, h4, h6.lt, fun w' hu => (h6.up hu).cell i (h7 i hi)⟩
theorem am_nil (w : World) : Am w (.slice none 0 0) 0 := ⟨none, 0, by rw [nl_zero], by rw [nl_zero]; exact Nat.le_refl _, fun h => by rw [nl_zero] at h; omega⟩
theorem am_blk {w : World} {b n c : Nat} {S : Nat → Nat} {C : Array Value} (hB : Blk w b 31 C) (hC : ∀ i, i < n → C[i]? = some (.int .u64 (S i : Nat))) (hc : n ≤ c) (hS : ∀ i, i < n → S i < 18446744073709551616) :
    Am w (.slice (some ⟨b, 0, none⟩) (lenL S n) c) (sumL S n) := by
  have h1 := lenL_le S n
  refine ⟨_, c, by rw [nl_sum hS], by rw [nl_sum hS]; omega, fun _ => ⟨b, C, rfl, hB, fun i hi => ?_⟩⟩
  rw [nl_sum hS] at hi
  rw [limb_sumL hS (by omega)]
  exact hC i (by omega)
theorem am_row {w : World} {b n N c : Nat} {S : Nat → Nat} (hR : Row w b 31 N S) (hN : n ≤ N) (hc : n ≤ c) (hS : ∀ i, i < n → S i < 18446744073709551616) :
    Am w (.slice (some ⟨b, 0, none⟩) (lenL S n) c) (sumL S n) := am_blk hR (fun i hi => cells_get N S i (by omega)) hc hS
def slen : Value → Nat
  | .slice _ n _ => n
  | _ => 0
set_option maxHeartbeats 400000 in
theorem trim_cells (b n c : Nat) (S : Nat → Nat) (w : World) (hR : ∀ i, i < n → w.cell? ⟨b, i, none⟩ = some (.int .u64 (S i : Nat))) (hc : n ≤ c) (hn : n < 1000000) :
    Calls Tryz.prog 74 #[.slice (some ⟨b, 0, none⟩) n c] w fun e w' => e = .returned (.slice (some ⟨b, 0, none⟩) (lenL S n) c) ∧ Up w w' := by
  go_enter Tryz.func74, Tryz.ntmps74
  go_wp2
  go_loopw [0] (fun t wr => ∃ k : Nat, k ≤ n ∧ t = .slice (some ⟨b, 0, none⟩) k c ∧ lenL S k = lenL S n ∧ wr = w) (fun t _ => slen t)
  case atStart => exact ⟨n, Nat.le_refl _, rfl, rfl, rfl⟩
  case round =>
    obtain ⟨k, hk, rfl, hl, rfl⟩ := hrel
    by_cases h0 : 0 < k
    · obtain ⟨j, rfl⟩ : ∃ j, k = j + 1 := ⟨k - 1, by omega⟩
      have hcx := hR j (by omega)
      have hstep := lenL_succ S j
      have hjc : (j : Int) ≤ c := by omega
      generalize S j = s at *
      by_cases hs : s = 0
      · subst hs
        rw [if_pos rfl] at hstep
        have HL := hid (hstep.symm.trans hl)
        clear hstep hl
        go_wp2
        go_roundw
        case rel => exact ⟨j, by omega, rfl, HL.out, trivial⟩
        case measure => simp [slen]
      · rw [if_neg hs] at hstep
        have HL := hid (hstep.symm.trans hl)
        have hb : ((s : Int) == 0) = false := by simpa using hs
        clear hstep hl hs
        go_wp2
        go_ret
        exact ⟨by rw [← HL.out]; rfl, gUp⟩
    · obtain rfl : k = 0 := by omega
      have HL := hid hl
      clear hl
      go_wp2
      go_ret
      exact ⟨by rw [← HL.out]; rfl, gUp⟩
theorem trim_row (b n N c : Nat) (S : Nat → Nat) (w : World) (hR : Row w b 31 N S) (hN : n ≤ N) (hc : n ≤ c) (hn : n < 1000000) :
    Calls Tryz.prog 74 #[.slice (some ⟨b, 0, none⟩) n c] w fun e w' => e = .returned (.slice (some ⟨b, 0, none⟩) (lenL S n) c) ∧ Up w w' :=
  trim_cells b n c S w (fun i hi => hR.cell i (by omega)) hc hn
theorem undS : Tryz.prog.underlying 44 = some (.slice 31) := by kernel_rfl
theorem infoU : (Tryz.prog.info? 31).map (fun i => (i.zero, i.size, i.bytes)) = some (some (.int .u64 0), 1, 8) := by kernel_rfl
theorem zeros_made (n : Nat) : madeCells (Value.int .u64 0).cells n = cells n (fun _ => 0) := by
  unfold cells
  apply Array.ext
  · simp [madeCells]
  · intro i h1 h2
    simp [madeCells, Value.cells, Nat.mod_one]
theorem mkP {ops : Array Oper} {rest : List Oper} {Q : Exit → Act → World → Prop} {a : Act} {w : World} {d : Option Tmp} {l : Tmp} {ty : TypeId} {pos : String} {af : Array Edge} {L : Int} {n : Nat} (hl : a.eval (.tmp l) = .int .i64 L) (hL : L = (n : Int)) (hn : n < 1000000)
    (h : wpList Tryz.prog ops Q rest (a.put d (.slice (some ⟨w.heap.size, 0, none⟩) n n)) (w.alloc (.cells (cells n (fun _ => 0)) 31))) :
    wpList Tryz.prog ops Q ({ dst := d, op := .makeSlice 44 (.tmp l) (.tmp l), type := ty, pos := pos, after := af, guard := none } :: rest) a w := by
  refine wpList_plain rfl fun _ hK => ?_
  have hi := infoU
  cases hq : Tryz.prog.info? 31 with
  | none => rw [hq] at hi; simp at hi
  | some i =>
    rw [hq] at hi
    simp only [Option.map_some, Option.some.injEq, Prod.mk.injEq] at hi
    have hr := run_make (P := Tryz.prog) (w := w) 44 31 i (.int .u64 0) undS hq hi.1 .i64 .i64 L L (by omega) (by omega) (by rw [hi.2.2]; omega) (by omega)
    rw [hi.2.1, Nat.mul_one, hL, Int.toNat_natCast, zeros_made] at hr
    unfold Oper.wp execOp
    simp only [hl, hL, Sem.run_bind, Sem.run_pure, Result.andThen_ok, hr]
    exact hK _ _ h
theorem plus_end {S : Nat → Nat} {x y k c : Nat} (_ : ∀ j, j < k + 1 → S j < 18446744073709551616) (hx : nl x ≤ k) (hy : nl y ≤ k) (h : sumL S (k + 1) + c * bp (k + 1) = sumL (limb x) (k + 1) + sumL (limb y) (k + 1)) : sumL S (k + 1) = x + y := by
  have h1 := bp_mono hx
  have h2 := bp_mono hy
  have h3 := lt_bp_nl x
  have h4 := lt_bp_nl y
  have h5 := bp_succ k
  rw [sumL_limb, sumL_limb, Nat.mod_eq_of_lt (show x < bp (k + 1) by omega), Nat.mod_eq_of_lt (show y < bp (k + 1) by omega)] at h
  rcases Nat.eq_zero_or_pos c with h0 | h0
  · subst h0; omega
  · have : 1 * bp (k + 1) ≤ c * bp (k + 1) := Nat.mul_le_mul_right _ h0
    omega
theorem minus_end {S : Nat → Nat} {x y k c : Nat} (hS : ∀ j, j < k → S j < 18446744073709551616) (hx : nl x ≤ k) (hxy : y ≤ x) (h : sumL S k + sumL (limb y) k = sumL (limb x) k + c * bp k) : sumL S k = x - y := by
  have h1 := bp_mono hx
  have h3 := lt_bp_nl x
  have h5 := sumL_lt hS
  rw [sumL_limb, sumL_limb, Nat.mod_eq_of_lt (show x < bp k by omega), Nat.mod_eq_of_lt (show y < bp k by omega)] at h
  rcases Nat.eq_zero_or_pos c with h0 | h0
  · subst h0; omega
  · have : 1 * bp k ≤ c * bp k := Nat.mul_le_mul_right _ h0
    omega
theorem padd_step {S : Nat → Nat} {X Y A B c r c' i : Nat} (h : sumL S i + c * bp i = A + B) (hr : r + c' * 18446744073709551616 = X + Y + c) : sumL (upd S i r) (i + 1) + c' * bp (i + 1) = A + X * bp i + (B + Y * bp i) := by
  rw [sumL_upd_succ, bp_succ]
  have h2 : (r + c' * 18446744073709551616) * bp i = (X + Y + c) * bp i := by rw [hr]
  have h3 : r * bp i + c' * (bp i * 18446744073709551616) = X * bp i + Y * bp i + c * bp i := by grind
  omega
theorem psub_step {S : Nat → Nat} {X Y A B c r c' i : Nat} (h : sumL S i + B = A + c * bp i) (hr : r + Y + c = X + c' * 18446744073709551616) : sumL (upd S i r) (i + 1) + (B + Y * bp i) = A + X * bp i + c' * bp (i + 1) := by
  rw [sumL_upd_succ, bp_succ]
  have h2 : (r + Y + c) * bp i = (X + c' * 18446744073709551616) * bp i := by rw [hr]
  have h3 : r * bp i + Y * bp i + c * bp i = X * bp i + c' * (bp i * 18446744073709551616) := by grind
  omega
set_option maxHeartbeats 1000000 in
theorem plus_am {x y : Nat} {va vb : Value} {w : World} (ha : Am w va x) (hb : Am w vb y) (hx : nl x < 100000) (hy : nl y < 100000) :
    Calls Tryz.prog 105 #[va, vb] w fun e w' => Up w w' ∧ ∃ v, e = .returned v ∧ Am w' v (x + y) := by
  obtain ⟨a, ca, rfl, hca1, hca0⟩ := ha.open
  obtain ⟨b, cb, rfl, hcb1, hcb0⟩ := hb.open
  obtain ⟨k, hk, hk1, hk2, hk3⟩ : ∃ k : Nat, max ((nl x : Nat) : Int) (nl y : Nat) = (k : Nat) ∧ nl x ≤ k ∧ nl y ≤ k ∧ k < 100000 := ⟨max (nl x) (nl y), by omega, by omega, by omega, by omega⟩
  clear ha hb
  go_enter Tryz.func105, Tryz.ntmps105
  go_wp2_with (first | ((with_reducible apply mkP (n := k + 1)); exact rfl; (first | rfl | omega); omega))
  go_loopw [7, 8] (fun tc ti wr => ∃ (i cc : Nat) (S : Nat → Nat), i ≤ k + 1 ∧ tc = .int .u64 (cc : Nat) ∧ ti = .int .i64 (i : Nat) ∧ cc ≤ 1 ∧ (∀ j, j < k + 1 → S j < 18446744073709551616) ∧ sumL S i + cc * bp i = sumL (limb x) i + sumL (limb y) i ∧ Row wr w.heap.size 31 (k + 1) S ∧ Below w.heap.size w wr)
    (fun _ ti _ => k + 1 - (intOf ti).toNat)
  case atStart => exact ⟨0, 0, fun _ => 0, by omega, rfl, rfl, by omega, fun _ _ => by simp, by simp [sumL_zero], row_newc _ _ _ rfl, (by repeat (first | assumption | (with_reducible apply Up.of) | (with_reducible exact Below.refl _ _) | ((with_reducible apply bl_setCell); (focus (first | exact Nat.le_refl _ | (simp; done) | (simp; omega) | omega))) | ((with_reducible apply bl_alloc); (focus (first | exact Nat.le_refl _ | (simp; done) | (simp; omega) | omega)))))⟩
  case round =>
    obtain ⟨i, cc, S, hi, rfl, rfl, hcc, hSb, hsum, hS, hB⟩ := hrel
    have HSb := hid hSb
    have Hsum := hid hsum
    clear hSb hsum
    by_cases hlt : i < k + 1
    · by_cases hp : i < nl x
      · by_cases hq : i < nl y
        · have h_ := hp
          obtain ⟨ba, rfl, hba, hca⟩ := hca0 i hp
          have hcx := hca wr hB
          obtain ⟨bb, rfl, hbb, hcb⟩ := hcb0 i hq
          have hcy := hcb wr hB
          obtain ⟨r, c', hadd, hrc, hrl, hc1⟩ : ∃ r c' : Nat, (∀ w, (callFunc 88 #[.int .u64 (limb x i : Nat), .int .u64 (limb y i : Nat), .int .u64 (cc : Nat)]).run Tryz.prog w = .ok (.value (.tuple #[.int .u64 (r : Nat), .int .u64 (c' : Nat)])) w) ∧ Hid (r + c' * 18446744073709551616 = limb x i + limb y i + cc) ∧ r < 18446744073709551616 ∧ c' ≤ 1 := by
            have hl1 := limb_lt x i
            have hl2 := limb_lt y i
            have h := run_add (limb x i) (limb y i) cc (by omega)
            exact ⟨_, _, h, hid (by omega), Nat.mod_lt _ (by decide), by omega⟩
          have hcs := hS.cell i (by omega)
          have hfs := hS.frozen i
          have gS := hS.set i r
          have gB := hB.setCell (p := ⟨w.heap.size, i, none⟩) (Nat.le_refl _) (.int .u64 (r : Nat))
          have hip : (decide ((i : Int) < (nl x : Nat))) = true := decide_eq_true (by omega)
          have hiq : decide ((i : Int) < (nl y : Nat)) = true := decide_eq_true (by omega)
          clear hB hS
          go_wp2
          go_roundw
          case rel =>
            refine ⟨i + 1, c', upd S i r, by omega, rfl, by go_num, hc1, upd_lt HSb.out hrl, ?_, gS, gB⟩
            rw [sumL_succ (limb x) i, sumL_succ (limb y) i]
            exact padd_step Hsum.out hrc.out
          case measure => simp [intOf] <;> omega
        · have h_ := hp
          obtain ⟨ba, rfl, hba, hca⟩ := hca0 i hp
          have hcx := hca wr hB
          have hzy := limb_nl (x := y) (i := i) (by omega)
          obtain ⟨r, c', hadd, hrc, hrl, hc1⟩ : ∃ r c' : Nat, (∀ w, (callFunc 88 #[.int .u64 (limb x i : Nat), .int .u64 0, .int .u64 (cc : Nat)]).run Tryz.prog w = .ok (.value (.tuple #[.int .u64 (r : Nat), .int .u64 (c' : Nat)])) w) ∧ Hid (r + c' * 18446744073709551616 = limb x i + limb y i + cc) ∧ r < 18446744073709551616 ∧ c' ≤ 1 := by
            have hl1 := limb_lt x i
            have hl2 := limb_lt y i
            have h := run_add (limb x i) (0) cc (by omega)
            simp only [show ((0 : Nat) : Int) = 0 from rfl] at h
            exact ⟨_, _, h, hid (by omega), Nat.mod_lt _ (by decide), by omega⟩
          have hcs := hS.cell i (by omega)
          have hfs := hS.frozen i
          have gS := hS.set i r
          have gB := hB.setCell (p := ⟨w.heap.size, i, none⟩) (Nat.le_refl _) (.int .u64 (r : Nat))
          have hip : (decide ((i : Int) < (nl x : Nat))) = true := decide_eq_true (by omega)
          have hiq : decide ((i : Int) < (nl y : Nat)) = false := decide_eq_false (by omega)
          clear hB hS
          go_wp2
          go_roundw
          case rel =>
            refine ⟨i + 1, c', upd S i r, by omega, rfl, by go_num, hc1, upd_lt HSb.out hrl, ?_, gS, gB⟩
            rw [sumL_succ (limb x) i, sumL_succ (limb y) i]
            exact padd_step Hsum.out hrc.out
          case measure => simp [intOf] <;> omega
      · by_cases hq : i < nl y
        · have h_ := hq
          have hzx := limb_nl (x := x) (i := i) (by omega)
          obtain ⟨bb, rfl, hbb, hcb⟩ := hcb0 i hq
          have hcy := hcb wr hB
          obtain ⟨r, c', hadd, hrc, hrl, hc1⟩ : ∃ r c' : Nat, (∀ w, (callFunc 88 #[.int .u64 0, .int .u64 (limb y i : Nat), .int .u64 (cc : Nat)]).run Tryz.prog w = .ok (.value (.tuple #[.int .u64 (r : Nat), .int .u64 (c' : Nat)])) w) ∧ Hid (r + c' * 18446744073709551616 = limb x i + limb y i + cc) ∧ r < 18446744073709551616 ∧ c' ≤ 1 := by
            have hl1 := limb_lt x i
            have hl2 := limb_lt y i
            have h := run_add (0) (limb y i) cc (by omega)
            simp only [show ((0 : Nat) : Int) = 0 from rfl] at h
            exact ⟨_, _, h, hid (by omega), Nat.mod_lt _ (by decide), by omega⟩
          have hcs := hS.cell i (by omega)
          have hfs := hS.frozen i
          have gS := hS.set i r
          have gB := hB.setCell (p := ⟨w.heap.size, i, none⟩) (Nat.le_refl _) (.int .u64 (r : Nat))
          have hip : (decide ((i : Int) < (nl x : Nat))) = false := decide_eq_false (by omega)
          have hiq : decide ((i : Int) < (nl y : Nat)) = true := decide_eq_true (by omega)
          clear hB hS
          go_wp2
          go_roundw
          case rel =>
            refine ⟨i + 1, c', upd S i r, by omega, rfl, by go_num, hc1, upd_lt HSb.out hrl, ?_, gS, gB⟩
            rw [sumL_succ (limb x) i, sumL_succ (limb y) i]
            exact padd_step Hsum.out hrc.out
          case measure => simp [intOf] <;> omega
        · have h_ := hq
          have hzx := limb_nl (x := x) (i := i) (by omega)
          have hzy := limb_nl (x := y) (i := i) (by omega)
          obtain ⟨r, c', hadd, hrc, hrl, hc1⟩ : ∃ r c' : Nat, (∀ w, (callFunc 88 #[.int .u64 0, .int .u64 0, .int .u64 (cc : Nat)]).run Tryz.prog w = .ok (.value (.tuple #[.int .u64 (r : Nat), .int .u64 (c' : Nat)])) w) ∧ Hid (r + c' * 18446744073709551616 = limb x i + limb y i + cc) ∧ r < 18446744073709551616 ∧ c' ≤ 1 := by
            have hl1 := limb_lt x i
            have hl2 := limb_lt y i
            have h := run_add (0) (0) cc (by omega)
            simp only [show ((0 : Nat) : Int) = 0 from rfl] at h
            exact ⟨_, _, h, hid (by omega), Nat.mod_lt _ (by decide), by omega⟩
          have hcs := hS.cell i (by omega)
          have hfs := hS.frozen i
          have gS := hS.set i r
          have gB := hB.setCell (p := ⟨w.heap.size, i, none⟩) (Nat.le_refl _) (.int .u64 (r : Nat))
          have hip : (decide ((i : Int) < (nl x : Nat))) = false := decide_eq_false (by omega)
          have hiq : decide ((i : Int) < (nl y : Nat)) = false := decide_eq_false (by omega)
          clear hB hS
          go_wp2
          go_roundw
          case rel =>
            refine ⟨i + 1, c', upd S i r, by omega, rfl, by go_num, hc1, upd_lt HSb.out hrl, ?_, gS, gB⟩
            rw [sumL_succ (limb x) i, sumL_succ (limb y) i]
            exact padd_step Hsum.out hrc.out
          case measure => simp [intOf] <;> omega
    · obtain rfl : i = k + 1 := by omega
      have he := plus_end HSb.out hk1 hk2 Hsum.out
      have ht := trim_row w.heap.size (k + 1) (k + 1) (k + 1) S wr hS (Nat.le_refl _) (Nat.le_refl _) (by omega)
      have hres := am_row (c := k + 1) hS (Nat.le_refl _) (Nat.le_refl _) HSb.out
      rw [he] at hres
      have HT := hid ht
      have HR := hid hres
      clear ht hres he HSb Hsum hS
      go_wp2_with (go_at_call 74; (with_reducible refine HT.out.mono ?_); rintro e w' ⟨rfl, hu⟩)
      go_ret
      exact ⟨below_up hB hu, _, rfl, HR.out.up hu⟩
set_option maxHeartbeats 1000000 in
theorem minus_am {x y : Nat} {va vb : Value} {w : World} (ha : Am w va x) (hb : Am w vb y) (hx : nl x < 100000) (hxy : y ≤ x) :
    Calls Tryz.prog 106 #[va, vb] w fun e w' => Up w w' ∧ ∃ v, e = .returned v ∧ Am w' v (x - y) := by
  obtain ⟨a, ca, rfl, hca1, hca0⟩ := ha.open
  obtain ⟨b, cb, rfl, hcb1, hcb0⟩ := hb.open
  obtain ⟨k, hk⟩ : ∃ k : Nat, k = nl x := ⟨_, rfl⟩
  have hqk : nl y ≤ nl x := nl_le (Nat.lt_of_le_of_lt hxy (lt_bp_nl x))
  clear ha hb
  go_enter Tryz.func106, Tryz.ntmps106
  go_wp2_with (first | ((with_reducible apply mkP (n := nl x)); exact rfl; (first | rfl | omega); omega))
  go_loopw [6, 7] (fun tc ti wr => ∃ (i cc : Nat) (S : Nat → Nat), i ≤ nl x ∧ tc = .int .u64 (cc : Nat) ∧ ti = .int .i64 (i : Nat) ∧ cc ≤ 1 ∧ (∀ j, j < nl x → S j < 18446744073709551616) ∧ sumL S i + sumL (limb y) i = sumL (limb x) i + cc * bp i ∧ Row wr w.heap.size 31 (nl x) S ∧ Below w.heap.size w wr)
    (fun _ ti _ => nl x - (intOf ti).toNat)
  case atStart => exact ⟨0, 0, fun _ => 0, by omega, rfl, rfl, by omega, fun _ _ => by simp, by simp [sumL_zero], row_newc _ _ _ rfl, (by repeat (first | assumption | (with_reducible apply Up.of) | (with_reducible exact Below.refl _ _) | ((with_reducible apply bl_setCell); (focus (first | exact Nat.le_refl _ | (simp; done) | (simp; omega) | omega))) | ((with_reducible apply bl_alloc); (focus (first | exact Nat.le_refl _ | (simp; done) | (simp; omega) | omega)))))⟩
  case round =>
    obtain ⟨i, cc, S, hi, rfl, rfl, hcc, hSb, hsum, hS, hB⟩ := hrel
    have HSb := hid hSb
    have Hsum := hid hsum
    clear hSb hsum
    by_cases hlt : i < nl x
    · have hp := hlt
      by_cases hq : i < nl y
      · have h_ := hp
        obtain ⟨ba, rfl, hba, hca⟩ := hca0 i hp
        have hcx := hca wr hB
        obtain ⟨bb, rfl, hbb, hcb⟩ := hcb0 i hq
        have hcy := hcb wr hB
        obtain ⟨r, c', hadd, hrc, hrl, hc1⟩ : ∃ r c' : Nat, (∀ w, (callFunc 130 #[.int .u64 (limb x i : Nat), .int .u64 (limb y i : Nat), .int .u64 (cc : Nat)]).run Tryz.prog w = .ok (.value (.tuple #[.int .u64 (r : Nat), .int .u64 (c' : Nat)])) w) ∧ Hid (r + limb y i + cc = limb x i + c' * 18446744073709551616) ∧ r < 18446744073709551616 ∧ c' ≤ 1 := by
          have hl1 := limb_lt x i
          have hl2 := limb_lt y i
          have h := run_sub (limb x i) (limb y i) cc (by omega)
          exact ⟨_, _, h, hid (by split <;> omega), Nat.mod_lt _ (by decide), by split <;> omega⟩
        have hcs := hS.cell i (by omega)
        have hfs := hS.frozen i
        have gS := hS.set i r
        have gB := hB.setCell (p := ⟨w.heap.size, i, none⟩) (Nat.le_refl _) (.int .u64 (r : Nat))
        have hip : (decide ((i : Int) < (nl x : Nat))) = true := decide_eq_true (by omega)
        have hiq : decide ((i : Int) < (nl y : Nat)) = true := decide_eq_true (by omega)
        clear hB hS
        go_wp2
        go_roundw
        case rel =>
          refine ⟨i + 1, c', upd S i r, by omega, rfl, by go_num, hc1, upd_lt HSb.out hrl, ?_, gS, gB⟩
          rw [sumL_succ (limb x) i, sumL_succ (limb y) i]
          exact psub_step Hsum.out hrc.out
        case measure => simp [intOf] <;> omega
      · have h_ := hp
        obtain ⟨ba, rfl, hba, hca⟩ := hca0 i hp
        have hcx := hca wr hB
        have hzy := limb_nl (x := y) (i := i) (by omega)
        obtain ⟨r, c', hadd, hrc, hrl, hc1⟩ : ∃ r c' : Nat, (∀ w, (callFunc 130 #[.int .u64 (limb x i : Nat), .int .u64 0, .int .u64 (cc : Nat)]).run Tryz.prog w = .ok (.value (.tuple #[.int .u64 (r : Nat), .int .u64 (c' : Nat)])) w) ∧ Hid (r + limb y i + cc = limb x i + c' * 18446744073709551616) ∧ r < 18446744073709551616 ∧ c' ≤ 1 := by
          have hl1 := limb_lt x i
          have hl2 := limb_lt y i
          have h := run_sub (limb x i) (0) cc (by omega)
          simp only [show ((0 : Nat) : Int) = 0 from rfl] at h
          exact ⟨_, _, h, hid (by split <;> omega), Nat.mod_lt _ (by decide), by split <;> omega⟩
        have hcs := hS.cell i (by omega)
        have hfs := hS.frozen i
        have gS := hS.set i r
        have gB := hB.setCell (p := ⟨w.heap.size, i, none⟩) (Nat.le_refl _) (.int .u64 (r : Nat))
        have hip : (decide ((i : Int) < (nl x : Nat))) = true := decide_eq_true (by omega)
        have hiq : decide ((i : Int) < (nl y : Nat)) = false := decide_eq_false (by omega)
        clear hB hS
        go_wp2
        go_roundw
        case rel =>
          refine ⟨i + 1, c', upd S i r, by omega, rfl, by go_num, hc1, upd_lt HSb.out hrl, ?_, gS, gB⟩
          rw [sumL_succ (limb x) i, sumL_succ (limb y) i]
          exact psub_step Hsum.out hrc.out
        case measure => simp [intOf] <;> omega
    · obtain rfl : i = nl x := by omega
      have he := minus_end HSb.out (Nat.le_refl _) hxy Hsum.out
      have ht := trim_row w.heap.size (nl x) (nl x) (nl x) S wr hS (Nat.le_refl _) (Nat.le_refl _) (by omega)
      have hres := am_row (c := nl x) hS (Nat.le_refl _) (Nat.le_refl _) HSb.out
      rw [he] at hres
      have HT := hid ht
      have HR := hid hres
      clear ht hres he HSb Hsum hS
      go_wp2_with (go_at_call 74; (with_reducible refine HT.out.mono ?_); rintro e w' ⟨rfl, hu⟩)
      go_ret
      exact ⟨below_up hB hu, _, rfl, HR.out.up hu⟩
theorem undB0 : (match Tryz.prog.underlying 46 with | some (.struct _) => true | _ => false) = true := by kernel_rfl
theorem undB : ∃ fs, Tryz.prog.underlying 46 = some (.struct fs) := by
  have h := undB0
  split at h
  · exact ⟨_, by assumption⟩
  · cases h
theorem infoB : (Tryz.prog.info? 46).map (·.size) = some 2 := by kernel_rfl
theorem blk_new {w : World} {b : Nat} {t : TypeId} {C : Array Value} (h : b = w.heap.size) : Blk (w.alloc (.cells C t)) b t C := Blk.new _ _ h
theorem blk_alloc {w : World} {b : Nat} {t : TypeId} {C : Array Value} {o : Obj} (h : Blk w b t C) : Blk (w.alloc o) b t C := h.old o
theorem blk_up {w w' : World} {b : Nat} {t : TypeId} {C : Array Value} (hu : Up w w') (h : Blk w b t C) : Blk w' b t C := h.up hu
theorem blk_same {w : World} {b : Nat} {t : TypeId} {C D : Array Value} (h : Blk w b t C) : Blk (w.setRow b D) b t D := h.setRow D
theorem blk_else {w : World} {b g : Nat} {t : TypeId} {C D : Array Value} (hb : b ≠ g) (h : Blk w b t C) : Blk (w.setRow g D) b t C := h.row_other D hb
theorem gBlk {w : World} {b : Nat} {t : TypeId} {C : Array Value} (h : Blk w b t C := by (repeat (first | assumption | ((with_reducible apply blk_new); (focus (first | rfl | (simp; done)))) | (with_reducible apply blk_alloc) | (with_reducible apply blk_drew) | (with_reducible apply blk_drewN) | ((with_reducible apply blk_up); assumption) | (with_reducible apply blk_same) | ((with_reducible apply blk_else); (focus (first | (simp; done) | (simp; omega) | omega)))))) : Blk w b t C := h
theorem one2 (b : Bool) (a : Option Addr) (n c : Nat) : (#[Value.bool b, Value.slice a n c]).all (·.oneCell') = true := by simp [Value.oneCell']
section
variable {ops : Array Oper} {rest : List Oper} {Q : Exit → Act → World → Prop} {a : Act} {w : World} {d : Option Tmp} {s u : Tmp} {ty : TypeId} {pos : String} {af : Array Edge} {gd : Option (Nat × Bool)} {g : Nat} {C D : Array Value}
theorem run_ldB {o : Oper} {x : Operand} (ho : o.op = .load 46 x) (hx : a.eval x = .pointer (some ⟨g, 0, none⟩)) (hC : Blk w g 46 C) (h2 : C.size = 2) : (execOp a.eval o).run Tryz.prog w = .ok (.value (.agg C)) w := by
  obtain ⟨fs, hu⟩ := undB
  unfold execOp
  simp only [ho, hx, Instr.loadAt, Instr.sureAddr, Sem.run_bind, Sem.run_pure, Result.andThen_ok, run_loadVar_row w g _ 46 C (0, 0) _ hC hu rfl (by rw [infoB, h2])]
theorem ldB_P (hw : Region.wanted { dst := d, op := .load 46 (.tmp s), type := ty, pos := pos, after := af, guard := gd } (yielded ops a.tmps) = true) (hx : a.eval (.tmp s) = .pointer (some ⟨g, 0, none⟩)) (hC : Blk w g 46 C) (h2 : C.size = 2)
    (h : wpList Tryz.prog ops Q rest (a.put d (.agg C)) w) : wpList Tryz.prog ops Q ({ dst := d, op := .load 46 (.tmp s), type := ty, pos := pos, after := af, guard := gd } :: rest) a w :=
  wpList_run hw (run_ldB rfl hx hC h2) h
theorem stB_P (hx : a.eval (.tmp s) = .pointer (some ⟨g, 0, none⟩)) (hy : a.eval (.tmp u) = .agg D) (hC : Blk w g 46 C) (h2 : C.size = 2) (h3 : D.size = 2) (h1 : D.all (·.oneCell') = true)
    (h : wpList Tryz.prog ops Q rest (a.put d undef) (w.setRow g D)) :
    wpList Tryz.prog ops Q ({ dst := d, op := .store 46 (.tmp s) (.tmp u), type := ty, pos := pos, after := af, guard := none } :: rest) a w :=
  wpList_plain rfl fun _ hK => wp_store_row _ _ _ rfl g D hx hy _ C hC (by rw [infoB, h3]) (by rw [h2, h3]) h1 (hK _ _ h)
theorem wp_stB {o : Oper} {K : Act → World → Prop} (hd : o.dst = none) {x y : Operand} (ho : o.op = .store 46 x y) (hx : a.eval x = .pointer (some ⟨g, 0, none⟩)) (hy : a.eval y = .agg D) (hC : Blk w g 46 C) (h2 : C.size = 2) (h3 : D.size = 2) (h1 : D.all (·.oneCell') = true)
    (h : K a (w.setRow g D)) : o.wp Tryz.prog a w K Q :=
  wp_store_row _ _ _ ho g D hx hy _ C hC (by rw [infoB, h3]) (by rw [h2, h3]) h1 (by rw [hd]; exact h)
end
theorem resB {fn : Func} {p : Tmp} (h : fn.results = #[.cell p 46]) {tmps : Array Value} {w : World} {g : Nat} {C : Array Value} (hp : tmps.getD p undef = .pointer (some ⟨g, 0, none⟩)) (hC : Blk w g 46 C) (h2 : C.size = 2) :
    (results fn tmps).run Tryz.prog w = .ok (.agg C) w := undB.elim fun _ hu => results_cell_row h tmps w g _ C (0, 0) _ hp hC hu rfl (by rw [infoB, h2])
section
variable {P : Program} {ops : Array Oper} {Q : Exit → Act → World → Prop} {md : Region.Mode} {S : World → Prop} {req : Nat → Bool}
theorem wpAnyU_callE {i : Nat} {o : Oper} {d : Option Tmp} {fuel : Nat} {listed : Array Bool} {a : Act} {w : World} {f : FuncId} {args : Array Value} {R : Value → World → Prop} (hi : ops[i]? = some o) (hd : o.dst = d) (hr : Region.ready md ops listed = [i]) (hw : Region.wanted o (yielded ops a.tmps) = true)
    (hSup : ∀ w w', S w → Up w w' → S w') (hrun : ∀ w', (execOp a.eval o).run P w' = .ok (.enter f args) w') (hc : ∀ w', Up w w' → Calls P f args w' fun e w'' => Up w' w'' ∧ ∃ v, e = .returned v ∧ R v w'')
    (h : ∀ v w'', Up w w'' → R v w'' → wpAnyU P md ops Q S req fuel (listed.setIfInBounds i true) (a.put d v) w'') : wpAnyU P md ops Q S req (fuel + 1) listed a w := by
  refine wpAnyU_one hi hr hw fun w' hw' => ?_
  unfold Oper.wp
  rw [hrun w']
  subst hd
  refine Calls.mono (hc w' hw') fun e w'' he => ?_
  obtain ⟨hu, v, rfl, hR⟩ := he
  exact ⟨fun _ hs => hSup _ _ hs hu, h v w'' (hw'.trans hu) hR⟩
end
theorem callE_of {P : Program} {f : FuncId} {args : Array Value} {w : World} {v : Value} (h : Calls P f args w fun e w' => e = .returned v ∧ Up w w') : Calls P f args w fun e w' => Up w w' ∧ ∃ u, e = .returned u ∧ u = v :=
  h.mono fun _ _ he => ⟨he.2, v, he.1, rfl⟩
def Big (w : World) (v : Value) (z : Int) : Prop := ∃ a c, v = .agg #[.bool (decide (z < 0)), .slice a (nl z.natAbs) c] ∧ Am w (.slice a (nl z.natAbs) c) z.natAbs
theorem Big.up {w w' : World} {v : Value} {z : Int} (h : Big w v z) (hu : Up w w') : Big w' v z := by
  obtain ⟨a, c, h1, h2⟩ := h
  exact ⟨a, c, h1, h2.up hu⟩
theorem Am.shape {w : World} {v : Value} {x : Nat} (h : Am w v x) : ∃ a c, v = .slice a (nl x) c := by
  obtain ⟨a, c, h1, _⟩ := h
  exact ⟨a, c, h1⟩
theorem pm_abs (neg : Bool) (x : Nat) : (pm neg x).natAbs = x := by cases neg <;> simp [pm]
theorem pm_neg (neg : Bool) (x : Nat) : decide (pm neg x < 0) = (neg && decide (0 < nl x)) := by
  rw [Bool.eq_iff_iff]
  cases neg <;> simp [pm, nl_pos_iff] <;> omega
theorem big_made {w : World} {a : Option Addr} {c x : Nat} (neg : Bool) (h : Am w (.slice a (nl x) c) x) : Big w (.agg #[.bool (neg && decide (0 < nl x)), .slice a (nl x) c]) (pm neg x) :=
  ⟨a, c, by rw [pm_neg, pm_abs], by rw [pm_abs]; exact h⟩
theorem made_any (neg : Bool) (a : Option Addr) (n c : Nat) (w : World) :
    Calls Tryz.prog 58 #[.bool neg, .slice a n c] w fun e w' => e = .returned (.agg #[.bool (neg && decide (0 < n)), .slice a n c]) ∧ Up w w' := by
  cases neg with
  | false =>
    rw [Bool.false_and]
    go_enter Tryz.func58, Tryz.ntmps58
    go_wp2
    exact bodyPost_ret (resB rfl rfl (by (repeat (first | assumption | ((with_reducible apply blk_new); (focus (first | rfl | (simp; done)))) | (with_reducible apply blk_alloc) | (with_reducible apply blk_drew) | (with_reducible apply blk_drewN) | ((with_reducible apply blk_up); assumption) | (with_reducible apply blk_same) | ((with_reducible apply blk_else); (focus (first | (simp; done) | (simp; omega) | omega)))))) rfl) rfl ⟨rfl, (by repeat (first | assumption | (with_reducible apply Up.of) | (with_reducible exact Below.refl _ _) | (with_reducible exact Up.refl _) | ((with_reducible apply bl_setRow); (focus (first | exact Nat.le_refl _ | (simp; done) | (simp; omega) | omega))) | (with_reducible apply below_drewN) | (with_reducible apply Below.drew) | ((with_reducible apply bl_alloc); (focus (first | exact Nat.le_refl _ | (simp; done) | (simp; omega) | omega))) | ((with_reducible apply bl_setCell); (focus (first | exact Nat.le_refl _ | (simp; done) | (simp; omega) | omega))) | ((with_reducible apply up_tr); assumption)))⟩
  | true =>
    rw [Bool.true_and]
    go_enter Tryz.func58, Tryz.ntmps58
    go_wp2
    exact bodyPost_ret (resB rfl rfl (by (repeat (first | assumption | ((with_reducible apply blk_new); (focus (first | rfl | (simp; done)))) | (with_reducible apply blk_alloc) | (with_reducible apply blk_drew) | (with_reducible apply blk_drewN) | ((with_reducible apply blk_up); assumption) | (with_reducible apply blk_same) | ((with_reducible apply blk_else); (focus (first | (simp; done) | (simp; omega) | omega)))))) rfl) rfl ⟨by first | rfl | simp, (by repeat (first | assumption | (with_reducible apply Up.of) | (with_reducible exact Below.refl _ _) | (with_reducible exact Up.refl _) | ((with_reducible apply bl_setRow); (focus (first | exact Nat.le_refl _ | (simp; done) | (simp; omega) | omega))) | (with_reducible apply below_drewN) | (with_reducible apply Below.drew) | ((with_reducible apply bl_alloc); (focus (first | exact Nat.le_refl _ | (simp; done) | (simp; omega) | omega))) | ((with_reducible apply bl_setCell); (focus (first | exact Nat.le_refl _ | (simp; done) | (simp; omega) | omega))) | ((with_reducible apply up_tr); assumption)))⟩
theorem neg_any (b : Bool) (a : Option Addr) (n c : Nat) (w : World) :
    Calls Tryz.prog 53 #[.agg #[.bool b, .slice a n c]] w fun e w' => e = .returned (.agg #[.bool (!b && decide (0 < n)), .slice a n c]) ∧ Up w w' := by
  have HM := hid (fun w => made_any (!b) a n c w)
  go_enter Tryz.func53, Tryz.ntmps53
  go_wp2_with (first | ((with_reducible apply stB_P); exact rfl; exact rfl; (focus (repeat (first | assumption | ((with_reducible apply blk_new); (focus (first | rfl | (simp; done)))) | (with_reducible apply blk_alloc) | (with_reducible apply blk_drew) | (with_reducible apply blk_drewN) | ((with_reducible apply blk_up); assumption) | (with_reducible apply blk_same) | ((with_reducible apply blk_else); (focus (first | (simp; done) | (simp; omega) | omega)))))); exact rfl; exact rfl; exact one2 _ _ _ _) | (go_at_call 58; refine (HM.out _).mono ?_; rintro e w' ⟨rfl, hu⟩))
  exact bodyPost_ret (resB rfl rfl (by (repeat (first | assumption | ((with_reducible apply blk_new); (focus (first | rfl | (simp; done)))) | (with_reducible apply blk_alloc) | (with_reducible apply blk_drew) | (with_reducible apply blk_drewN) | ((with_reducible apply blk_up); assumption) | (with_reducible apply blk_same) | ((with_reducible apply blk_else); (focus (first | (simp; done) | (simp; omega) | omega)))))) rfl) rfl ⟨rfl, (by repeat (first | assumption | (with_reducible apply Up.of) | (with_reducible exact Below.refl _ _) | (with_reducible exact Up.refl _) | ((with_reducible apply bl_setRow); (focus (first | exact Nat.le_refl _ | (simp; done) | (simp; omega) | omega))) | (with_reducible apply below_drewN) | (with_reducible apply Below.drew) | ((with_reducible apply bl_alloc); (focus (first | exact Nat.le_refl _ | (simp; done) | (simp; omega) | omega))) | ((with_reducible apply bl_setCell); (focus (first | exact Nat.le_refl _ | (simp; done) | (simp; omega) | omega))) | ((with_reducible apply up_tr); assumption)))⟩
def bsign (b : Bool) (n : Nat) : Int := if n = 0 then 0 else if b then -1 else 1
theorem bsign_any (b : Bool) (a : Option Addr) (n c : Nat) (w : World) :
    Calls Tryz.prog 52 #[.agg #[.bool b, .slice a n c]] w fun e w' => e = .returned (.int .i64 (bsign b n)) ∧ Up w w' := by
  by_cases h0 : n = 0
  · subst h0
    go_enter Tryz.func52, Tryz.ntmps52
    go_wp2
    go_ret
    exact ⟨rfl, (by repeat (first | assumption | (with_reducible apply Up.of) | (with_reducible exact Below.refl _ _) | (with_reducible exact Up.refl _) | ((with_reducible apply bl_setRow); (focus (first | exact Nat.le_refl _ | (simp; done) | (simp; omega) | omega))) | (with_reducible apply below_drewN) | (with_reducible apply Below.drew) | ((with_reducible apply bl_alloc); (focus (first | exact Nat.le_refl _ | (simp; done) | (simp; omega) | omega))) | ((with_reducible apply bl_setCell); (focus (first | exact Nat.le_refl _ | (simp; done) | (simp; omega) | omega))) | ((with_reducible apply up_tr); assumption)))⟩
  · have hb : ((n : Int) == 0) = false := by simpa using h0
    have e : bsign b n = if b then -1 else 1 := by unfold bsign; rw [if_neg h0]
    rw [e]
    clear e h0
    go_enter Tryz.func52, Tryz.ntmps52
    cases b <;> (go_wp2; go_ret; exact ⟨rfl, (by repeat (first | assumption | (with_reducible apply Up.of) | (with_reducible exact Below.refl _ _) | (with_reducible exact Up.refl _) | ((with_reducible apply bl_setRow); (focus (first | exact Nat.le_refl _ | (simp; done) | (simp; omega) | omega))) | (with_reducible apply below_drewN) | (with_reducible apply Below.drew) | ((with_reducible apply bl_alloc); (focus (first | exact Nat.le_refl _ | (simp; done) | (simp; omega) | omega))) | ((with_reducible apply bl_setCell); (focus (first | exact Nat.le_refl _ | (simp; done) | (simp; omega) | omega))) | ((with_reducible apply up_tr); assumption)))⟩)
theorem big_neg {w : World} {v : Value} {z : Int} (h : Big w v z) : ∃ b a n c, v = .agg #[.bool b, .slice a n c] ∧ Big w (.agg #[.bool (!b && decide (0 < n)), .slice a n c]) (-z) := by
  obtain ⟨a, c, rfl, hA⟩ := h
  refine ⟨_, a, _, c, rfl, a, c, ?_, by rw [Int.natAbs_neg]; exact hA⟩
  rw [Int.natAbs_neg]
  have : (!decide (z < 0) && decide (0 < nl z.natAbs)) = decide (-z < 0) := by
    rw [Bool.eq_iff_iff]
    simp [nl_pos_iff]
    omega
  rw [this]
theorem sgn_big {z : Int} : bsign (decide (z < 0)) (nl z.natAbs) = sgn z := by
  unfold bsign sgn
  by_cases h : nl z.natAbs = 0
  · have : ¬ 0 < z.natAbs := fun h1 => by have := nl_pos h1; omega
    rw [if_pos h, show z = 0 by omega]; rfl
  · have := nl_pos_iff.1 (Nat.pos_of_ne_zero h)
    rw [if_neg h]
    by_cases h1 : z < 0
    · simp [h1]
    · have h2 : z ≠ 0 := by omega
      simp [h1, h2]
theorem undM0 : (match Tryz.prog.underlying 24 with | some (.struct _) => true | _ => false) = true := by kernel_rfl
theorem undM : ∃ fs, Tryz.prog.underlying 24 = some (.struct fs) := by
  have h := undM0
  split at h
  · exact ⟨_, by assumption⟩
  · cases h
theorem infoM : (Tryz.prog.info? 24).map (·.size) = some 2 := by kernel_rfl
theorem two2 (k : IntKind) (n : Int) (a : Option Addr) (m c : Nat) : (#[Value.int k n, Value.slice a m c]).all (·.oneCell') = true := by simp [Value.oneCell']
section
variable {ops : Array Oper} {rest : List Oper} {Q : Exit → Act → World → Prop} {a : Act} {w : World} {d : Option Tmp} {s u : Tmp} {ty : TypeId} {pos : String} {af : Array Edge} {gd : Option (Nat × Bool)} {g : Nat} {C D : Array Value}
theorem run_ldM {o : Oper} {x : Operand} (ho : o.op = .load 24 x) (hx : a.eval x = .pointer (some ⟨g, 0, none⟩)) (hC : Blk w g 24 C) (h2 : C.size = 2) : (execOp a.eval o).run Tryz.prog w = .ok (.value (.agg C)) w := by
  obtain ⟨fs, hu⟩ := undM
  unfold execOp
  simp only [ho, hx, Instr.loadAt, Instr.sureAddr, Sem.run_bind, Sem.run_pure, Result.andThen_ok, run_loadVar_row w g _ 24 C (0, 0) _ hC hu rfl (by rw [infoM, h2])]
theorem ldM_P (hw : Region.wanted { dst := d, op := .load 24 (.tmp s), type := ty, pos := pos, after := af, guard := gd } (yielded ops a.tmps) = true) (hx : a.eval (.tmp s) = .pointer (some ⟨g, 0, none⟩)) (hC : Blk w g 24 C) (h2 : C.size = 2)
    (h : wpList Tryz.prog ops Q rest (a.put d (.agg C)) w) : wpList Tryz.prog ops Q ({ dst := d, op := .load 24 (.tmp s), type := ty, pos := pos, after := af, guard := gd } :: rest) a w :=
  wpList_run hw (run_ldM rfl hx hC h2) h
theorem stM_P (hx : a.eval (.tmp s) = .pointer (some ⟨g, 0, none⟩)) (hy : a.eval (.tmp u) = .agg D) (hC : Blk w g 24 C) (h2 : C.size = 2) (h3 : D.size = 2) (h1 : D.all (·.oneCell') = true)
    (h : wpList Tryz.prog ops Q rest (a.put d undef) (w.setRow g D)) :
    wpList Tryz.prog ops Q ({ dst := d, op := .store 24 (.tmp s) (.tmp u), type := ty, pos := pos, after := af, guard := none } :: rest) a w :=
  wpList_plain rfl fun _ hK => wp_store_row _ _ _ rfl g D hx hy _ C hC (by rw [infoM, h3]) (by rw [h2, h3]) h1 (hK _ _ h)
theorem wp_stM {o : Oper} {K : Act → World → Prop} (hd : o.dst = none) {x y : Operand} (ho : o.op = .store 24 x y) (hx : a.eval x = .pointer (some ⟨g, 0, none⟩)) (hy : a.eval y = .agg D) (hC : Blk w g 24 C) (h2 : C.size = 2) (h3 : D.size = 2) (h1 : D.all (·.oneCell') = true)
    (h : K a (w.setRow g D)) : o.wp Tryz.prog a w K Q :=
  wp_store_row _ _ _ ho g D hx hy _ C hC (by rw [infoM, h3]) (by rw [h2, h3]) h1 (by rw [hd]; exact h)
end
theorem resM {fn : Func} {p : Tmp} (h : fn.results = #[.cell p 24]) {tmps : Array Value} {w : World} {g : Nat} {C : Array Value} (hp : tmps.getD p undef = .pointer (some ⟨g, 0, none⟩)) (hC : Blk w g 24 C) (h2 : C.size = 2) :
    (results fn tmps).run Tryz.prog w = .ok (.agg C) w := undM.elim fun _ hu => results_cell_row h tmps w g _ C (0, 0) _ hp hC hu rfl (by rw [infoM, h2])
theorem undI : Tryz.prog.underlying 22 = some (.slice 2) := by kernel_rfl
theorem infoI : (Tryz.prog.info? 2).map (fun i => (i.zero, i.size, i.bytes)) = some (some (.int .i64 0), 1, 8) := by kernel_rfl
def vals (l : List Int) : List Value := l.map (Value.int .i64)
def OwnI (w : World) (base : Nat) (v : Value) (l : List Int) : Prop := w.ownsRow base 2 1 v l.length (vals l)
theorem OwnI.up {w w' : World} {base : Nat} {v : Value} {l : List Int} (hu : Up w w') (h : OwnI w base v l) : OwnI w' base v l := World.ownsRow.up h hu
theorem OwnI.nil (w : World) (base : Nat) : OwnI w base (.slice none 0 0) [] := World.ownsRow_nil _ _ _ _
theorem vals_get {l : List Int} {i : Nat} (h : i < l.length) : (vals l)[i]? = some (.int .i64 (zth l i)) := by
  unfold vals; rw [List.getElem?_map, zth_get h, List.getElem?_eq_getElem h]; rfl
theorem OwnI.open {w : World} {base : Nat} {v : Value} {l : List Int} (h : OwnI w base v l) (h0 : 0 < l.length) :
    ∃ g cap C, v = .slice (some ⟨g, 0, none⟩) l.length cap ∧ base ≤ g ∧ Blk w g 2 C ∧ l.length ≤ cap ∧ cap ≤ maxLen ∧ C.size = cap ∧ C.toList.take l.length = vals l := by
  obtain ⟨_, h1 | ⟨g, cap, cur, hv, hb, hB, hc, hm, hs, ht⟩⟩ := h
  · omega
  · exact ⟨g, cap, cur, hv, hb, hB, hc, hm, by omega, by rw [← ht, Nat.mul_one]⟩
theorem OwnI.vw {w : World} {base : Nat} {v : Value} {l : List Int} (h : OwnI w base v l) : Vw w v l := by
  rcases Nat.eq_zero_or_pos l.length with h0 | h0
  · have hl := List.length_eq_zero_iff.1 h0
    subst hl
    obtain ⟨_, ⟨rfl, _⟩ | ⟨g, cap, cur, rfl, _⟩⟩ := h
    · exact ⟨none, 0, rfl, ⟨Nat.le_refl _, fun _ => rfl⟩, fun i hi => absurd hi (Nat.not_lt_zero _)⟩
    · exact ⟨_, cap, rfl, ⟨Nat.zero_le _, fun e => by cases e⟩, fun i hi => absurd hi (Nat.not_lt_zero _)⟩
  · obtain ⟨g, cap, C, rfl, _, hB, hc, _, _, ht⟩ := h.open h0
    refine ⟨_, cap, rfl, ⟨hc, fun e => by cases e⟩, fun i hi => ⟨_, rfl, ?_⟩⟩
    have h1 : C[i]? = some (.int .i64 (zth l i)) := by
      rw [← Array.getElem?_toList, ← List.getElem?_take_of_lt hi, ht, vals_get hi]
    have h2 := hB.cell i h1
    have e : Addr.add ⟨g, 0, none⟩ i = ⟨g, i, none⟩ := by unfold Addr.add; simp; omega
    rw [e]
    exact h2
theorem vals_set (l : List Int) (k : Nat) (z : Int) : vals (l.set k z) = (vals l).set k (.int .i64 z) := by unfold vals; rw [List.map_set]
theorem OwnI.set {w : World} {base g n cap : Nat} {l : List Int} (h : OwnI w base (.slice (some ⟨g, 0, none⟩) n cap) l) {k : Nat} (hk : k < l.length) (z : Int) :
    OwnI (w.setCell ⟨g, k, none⟩ (.int .i64 z)) base (.slice (some ⟨g, 0, none⟩) n cap) (l.set k z) := by
  obtain ⟨g', cap', C, hv, hb, hB, hc, hm, hs, ht⟩ := h.open (by omega)
  injection hv with e1 e2 e3
  injection e1 with e1
  injection e1 with e1
  subst e1 e2 e3
  refine ⟨by rw [vals_set, List.length_set, List.length_set]; unfold vals; simp, .inr ⟨g, cap, _, by rw [List.length_set], hb, hB.set k (.int .i64 z), by rw [List.length_set]; exact hc, hm, by simp [hs], ?_⟩⟩
  rw [vals_set, List.length_set, Nat.mul_one, Array.toList_setIfInBounds, ← ht, List.take_set]
theorem OwnI.cells {w : World} {base g n cap : Nat} {l : List Int} (h : OwnI w base (.slice (some ⟨g, 0, none⟩) n cap) l) {k : Nat} (hk : k < l.length) :
    w.cell? ⟨g, k, none⟩ = some (.int .i64 (zth l k)) ∧ w.frozen? ⟨g, k, none⟩ = false := by
  obtain ⟨g', cap', C, hv, hb, hB, hc, hm, hs, ht⟩ := h.open (by omega)
  injection hv with e1 e2 e3
  injection e1 with e1
  injection e1 with e1
  subst e1 e2 e3
  have h1 : C[k]? = some (.int .i64 (zth l k)) := by
    rw [← Array.getElem?_toList, ← List.getElem?_take_of_lt hk, ht, vals_get hk]
  exact ⟨hB.cell k h1, hB.frozen k⟩
theorem vals_append (l m : List Int) : vals (l ++ m) = vals l ++ vals m := by unfold vals; rw [List.map_append]
theorem appV {ops : Array Oper} {rest : List Oper} {Q : Exit → Act → World → Prop} {a : Act} {w : World} {d : Option Tmp} {s u : Operand} {ty : TypeId} {pos : String} {af : Array Edge} {base : Nat} {v x : Value} {l m : List Int}
    (hs : a.eval s = v) (hu : a.eval u = x) (hown : OwnI w base v l) (hV : Vw w x m) (hbase : base ≤ w.heap.size) (hl : l.length < 1000000) (hm : m.length < 1000000)
    (h : ∀ v' w', OwnI w' base v' (l ++ m) → Below base w w' → wpList Tryz.prog ops Q rest (a.put d v') w') :
    wpList Tryz.prog ops Q ({ dst := d, op := .call { callee := .builtin .append, args := #[s, u], argTypes := #[22, 22] }, type := ty, pos := pos, after := af, guard := none } :: rest) a w := by
  obtain ⟨i0, hi0, he⟩ := Option.map_eq_some_iff.1 infoI
  simp only [Prod.mk.injEq] at he
  have hlt := World.ownsRow.lt hown
  have hfin : ∀ v' w', w'.ownsRow base 2 1 v' (l.length + m.length) (vals l ++ vals m) → w.grownBy w' v.ownBlock → wpList Tryz.prog ops Q rest (a.put d v') w' := by
    intro v' w' h1 h2
    refine h v' w' (by unfold OwnI; rw [List.length_append, vals_append]; exact h1) ⟨h2.os, h2.tape, h2.output, h2.size, fun k hk => h2.block k (by omega) ?_⟩
    intro e
    have := hlt k e.symm
    omega
  obtain ⟨p, cap, rfl, hcap, hc⟩ := hV
  cases p with
  | none =>
    have h0 : m.length = 0 := by
      rcases Nat.eq_zero_or_pos m.length with h0 | h0
      · exact h0
      · obtain ⟨ad, h1, _⟩ := hc 0 h0; cases h1
    have hm0 := List.length_eq_zero_iff.1 h0
    subst hm0
    obtain rfl := hcap.2 rfl
    refine wpList_append_own_none (P := Tryz.prog) (w := w) rfl s u 22 rfl base 2 i0 1 undI hi0 v l.length (vals l) hs hown hu ?_
    exact hfin v w (by simpa [vals, OwnI] using hown) (World.grownBy.refl w _)
  | some ad =>
    have hcell : ∀ j x, (vals m)[j]? = some x → w.cell? (ad.add j) = some x := by
      intro j x hx
      have hj : j < m.length := by
        have := (List.getElem?_eq_some_iff.1 hx).1
        unfold vals at this
        simpa using this
      obtain ⟨a2, e2, h2⟩ := hc j hj
      injection e2 with e2
      subst e2
      rw [vals_get hj] at hx
      rw [h2]; exact hx
    refine wpList_append_own w rfl s u 22 rfl base 2 i0 (.int .i64 0) 1 8 undI hi0 he.1 he.2.1 he.2.2 rfl (by decide) v l.length (vals l) hs hown ad m.length cap (vals m) hu (by unfold vals; simp) hcell ?_ (by unfold maxLen; omega) (by omega) hbase ?_
    · intro x hx
      unfold vals at hx
      obtain ⟨z, _, rfl⟩ := List.mem_map.1 hx
      rfl
    · intro v' w' h1 h2 _
      exact hfin v' w' h1 h2
def Errs (w : World) (u : Value) (e : Int) : Prop := (e = 0 ∧ u = .nilIface) ∨ (e ≠ 0 ∧ ∃ t x, u = .iface t x ∧ IsEr w u (.flt symB (.num e)))
theorem Errs.none_ (w : World) : Errs w .nilIface 0 := .inl ⟨rfl, rfl⟩
theorem Errs.some_ {w : World} {t : TypeId} {x : Value} {n : Int} (h0 : n ≠ 0) (h : IsEr w (.iface t x) (.flt symB (.num n))) : Errs w (.iface t x) n := .inr ⟨h0, t, x, rfl, h⟩
def rng (N i j : Int) : Bool := decide ((0 ≤ i ∧ i < N) ∧ (0 ≤ j ∧ j < N))
def atC (N : Int) (l : List Int) (i j : Int) : Int := if rt N l then (if rng N i j then 0 else 20) else 23
def ent (N : Int) (l : List Int) (i j : Int) : Int := zth l (idx N i j).toNat
def atV (N : Int) (l : List Int) (i j : Int) : Int := if atC N l i j = 0 then ent N l i j else 0
theorem rt_spec {N : Int} {l : List Int} (h : rt N l = true) : 0 ≤ N ∧ N ≤ 8 ∧ (l.length : Int) = tri N ∧ ∀ i, i < l.length → fit (zth l i) = true := by
  unfold rt at h
  rw [Bool.and_eq_true] at h
  obtain ⟨h1, h2, h3⟩ := of_decide_eq_true h.1
  refine ⟨h1, h2, h3, fun i hi => ?_⟩
  rw [zth_get hi]
  exact List.all_eq_true.1 h.2 _ (List.getElem_mem hi)
theorem idx_nat {N : Int} {l : List Int} {i j : Int} (hR : rt N l = true) (hr : rng N i j = true) : ∃ k : Nat, idx N i j = (k : Int) ∧ k < l.length ∧ ent N l i j = zth l k := by
  obtain ⟨h1, h2, h3, _⟩ := rt_spec hR
  obtain ⟨⟨i0, i1⟩, j0, j1⟩ := of_decide_eq_true hr
  obtain ⟨x1, x2⟩ := idx_in h2 i0 i1 j0 j1
  refine ⟨(idx N i j).toNat, by omega, by omega, rfl⟩
set_option maxHeartbeats 2000000 in
theorem at_any {v : Value} {N : Int} {l : List Int} (i j : Int) {w : World} (h : Sm w v N l) :
    Calls Tryz.prog 78 #[v, .int .i64 i, .int .i64 j] w fun r w' => ∃ u, r = .returned (.tuple #[.int .i64 (atV N l i j), u]) ∧ Up w w' ∧ Errs w' u (atC N l i j) := by
  have HR := hid (fun w' (hu : Up w w') => sright_any (h.up hu))
  have HH := hid (fun i w' (hu : Up w w') => hasrow_any i (h.up hu))
  have HWR := hid wrong_any
  obtain ⟨s, rfl, hV, hN, hl, hlen⟩ := h
  obtain ⟨p, cap, rfl, hcap, hc⟩ := hV
  cases hR : rt N l with
  | false =>
    have e : atC N l i j = 23 := by unfold atC; rw [hR]; rfl
    have e2 : atV N l i j = 0 := by unfold atV; rw [e]; rfl
    rw [e, e2]
    rw [hR] at HR
    clear e e2 hR hc hl
    have hB := Blk.new (w := w) (b := w.heap.size) 24 #[.int .i64 N, .slice p l.length cap] rfl
    have HU := hid (Up.alloc w (.cells #[.int .i64 N, .slice p l.length cap] 24))
    go_enter Tryz.func78, Tryz.ntmps78
    go_wp2_with (first
      | ((with_reducible apply ldM_P); exact rfl; exact rfl; exact hB; exact rfl)
      | (go_at_call 41; (with_reducible refine (HR.out _ HU.out).mono ?_); rintro r w1 ⟨rfl, hu1⟩)
      | (go_at_call 107; (with_reducible refine (HWR.out _ _).mono ?_); rintro r w2 ⟨t2, u2, rfl, hu2, h2⟩))
    go_ret2
    exact ⟨_, rfl, (HU.out.trans hu1).trans hu2, Errs.some_ (by decide) h2⟩
  | true =>
    cases hr : rng N i j with
    | false =>
      have e : atC N l i j = 20 := by unfold atC; rw [hR, hr]; rfl
      have e2 : atV N l i j = 0 := by unfold atV; rw [e]; rfl
      rw [e, e2]
      rw [hR] at HR
      have hr' := of_decide_eq_false hr
      clear e e2 hR hc hl hr
      have hB := Blk.new (w := w) (b := w.heap.size) 24 #[.int .i64 N, .slice p l.length cap] rfl
      have HU := hid (Up.alloc w (.cells #[.int .i64 N, .slice p l.length cap] 24))
      cases hi : decide (0 ≤ i ∧ i < N) with
      | false =>
        have HI := hid (fun w' (hu : Up w w') => hi ▸ HH.out i w' hu)
        clear hr' HH hi
        go_enter Tryz.func78, Tryz.ntmps78
        go_wp2_with (first
          | ((with_reducible apply ldM_P); exact rfl; exact rfl; exact hB; exact rfl)
          | (go_at_call 41; (with_reducible refine (HR.out _ HU.out).mono ?_); rintro r w1 ⟨rfl, hu1⟩; replace hB := hB.up hu1)
          | (go_at_call 108; (with_reducible refine (HI.out _ (HU.out.trans hu1)).mono ?_); rintro r w3 ⟨rfl, hu3⟩; replace hB := hB.up hu3)
          | (go_at_call 107; (with_reducible refine (HWR.out _ _).mono ?_); rintro r w2 ⟨t2, u2, rfl, hu2, h2⟩))
        go_ret2
        exact ⟨_, rfl, ((HU.out.trans hu1).trans hu3).trans hu2, Errs.some_ (by decide) h2⟩
      | true =>
        have hj : decide (0 ≤ j ∧ j < N) = false := decide_eq_false (fun hj => hr' ⟨of_decide_eq_true hi, hj⟩)
        have HI := hid (fun w' (hu : Up w w') => hi ▸ HH.out i w' hu)
        have HJ := hid (fun w' (hu : Up w w') => hj ▸ HH.out j w' hu)
        clear hr' HH hi hj
        go_enter Tryz.func78, Tryz.ntmps78
        go_wp2_with (first
          | ((with_reducible apply ldM_P); exact rfl; exact rfl; exact hB; exact rfl)
          | (go_at_call 41; (with_reducible refine (HR.out _ HU.out).mono ?_); rintro r w1 ⟨rfl, hu1⟩; replace hB := hB.up hu1)
          | (go_at_call 108; first
              | ((with_reducible refine (HJ.out _ ((HU.out.trans hu1).trans hu3)).mono ?_); rintro r w4 ⟨rfl, hu4⟩; replace hB := hB.up hu4)
              | ((with_reducible refine (HI.out _ (HU.out.trans hu1)).mono ?_); rintro r w3 ⟨rfl, hu3⟩; replace hB := hB.up hu3))
          | (go_at_call 107; (with_reducible refine (HWR.out _ _).mono ?_); rintro r w2 ⟨t2, u2, rfl, hu2, h2⟩))
        go_ret2
        exact ⟨_, rfl, (((HU.out.trans hu1).trans hu3).trans hu4).trans hu2, Errs.some_ (by decide) h2⟩
    | true =>
      obtain ⟨k, hk, hkl, hke⟩ := idx_nat hR hr
      have e : atC N l i j = 0 := by unfold atC; rw [hR, hr]; rfl
      have e2 : atV N l i j = zth l k := by unfold atV; rw [e, ← hke]; rfl
      rw [e, e2]
      obtain ⟨r1, r2, r3, _⟩ := rt_spec hR
      obtain ⟨hi, hj⟩ := of_decide_eq_true hr
      have HX := hid (fun w => hk ▸ idx_any N i j r2 hi.1 hi.2 hj.1 hj.2 w)
      have HI := hid (fun w' (hu : Up w w') => (decide_eq_true hi) ▸ HH.out i w' hu)
      have HJ := hid (fun w' (hu : Up w w') => (decide_eq_true hj) ▸ HH.out j w' hu)
      rw [hR] at HR
      obtain ⟨ad, rfl, hcell⟩ := hc k hkl
      have HC := hid hcell
      have HU := hid (Up.alloc w (.cells #[.int .i64 N, .slice (some ad) l.length cap] 24))
      have hB := Blk.new (w := w) (b := w.heap.size) 24 #[.int .i64 N, .slice (some ad) l.length cap] rfl
      clear e e2 hR hc hl hr hk hke hi hj hcell r1 r2 r3 HH
      go_enter Tryz.func78, Tryz.ntmps78
      go_wp2_with (first
        | ((with_reducible apply ldM_P); exact rfl; exact rfl; exact hB; exact rfl)
        | (go_at_call 41; (with_reducible refine (HR.out _ HU.out).mono ?_); rintro r w1 ⟨rfl, hu1⟩; replace hB := hB.up hu1)
        | (go_at_call 108; first
            | ((with_reducible refine (HJ.out _ ((HU.out.trans hu1).trans hu3)).mono ?_); rintro r w4 ⟨rfl, hu4⟩; replace hB := hB.up hu4)
            | ((with_reducible refine (HI.out _ (HU.out.trans hu1)).mono ?_); rintro r w3 ⟨rfl, hu3⟩; replace hB := hB.up hu3)))
      have hc0 := hB.cell 0 rfl
      have hc1 := hB.cell 1 rfl
      have hcell := (((HU.out.trans hu1).trans hu3).trans hu4).cellEq HC.out
      have HU2 := hid (((HU.out.trans hu1).trans hu3).trans hu4)
      go_quiet ((go_at_call 109; exact Calls.quiet_of_same (HX.out _)))
      go_wp2_with fail
      go_ret2
      exact ⟨_, rfl, below_drewN HU2.out _, Errs.none_ _⟩
theorem OwnI.setRow {w : World} {base g : Nat} {v : Value} {l : List Int} {C D : Array Value} (h : OwnI w base v l) (hg : Blk w g 24 C) : OwnI (w.setRow g D) base v l := by
  refine ⟨h.1, ?_⟩
  rcases h.2 with h2 | ⟨b, cap, cur, h1, h2, h3, h4⟩
  · exact .inl h2
  · refine .inr ⟨b, cap, cur, h1, h2, ?_, h4⟩
    have hne : b ≠ g := by
      rintro rfl
      unfold Blk at hg
      rw [h3] at hg
      simp at hg
    exact Blk.row_other (t := 2) h3 D hne
theorem resMs {fn : Func} {p q : Tmp} (h : fn.results = #[.cell p 24, .tmp q]) {tmps : Array Value} {w : World} {g : Nat} {C : Array Value} {u : Value} (hp : tmps.getD p undef = .pointer (some ⟨g, 0, none⟩)) (hq : tmps.getD q undef = u) (hC : Blk w g 24 C) (h2 : C.size = 2) :
    (results fn tmps).run Tryz.prog w = .ok (.tuple #[.agg C, u]) w := by
  obtain ⟨fs, hu⟩ := undM
  rw [results_cell_tmp h, hp, hq]
  simp [asAddr, run_loadVar_row w g _ 24 C (0, 0) _ hC hu rfl (by rw [infoM, h2]), Result.andThen]
def stC (N : Int) (l : List Int) (i j v : Int) : Int := if rt N l then (if rng N i j then (if fit v then 0 else 21) else 20) else 23
def stL (N : Int) (l : List Int) (i j v : Int) : List Int := if stC N l i j v = 0 then l.set (idx N i j).toNat v else []
def stN (N : Int) (l : List Int) (i j v : Int) : Int := if stC N l i j v = 0 then N else 0
def SmO (w : World) (v : Value) (N : Int) (l : List Int) : Prop := ∃ s base, v = .agg #[.int .i64 N, s] ∧ OwnI w base s l ∧ I64 N ∧ In64 l ∧ l.length ≤ 1000
theorem SmO.sm {w : World} {v : Value} {N : Int} {l : List Int} (h : SmO w v N l) : Sm w v N l := by
  obtain ⟨s, base, e, h1, h2⟩ := h
  exact ⟨s, e, h1.vw, h2⟩
theorem SmO.up {w w' : World} (hu : Up w w') {v : Value} {N : Int} {l : List Int} (h : SmO w v N l) : SmO w' v N l := by
  obtain ⟨s, base, e, h1, h2⟩ := h
  exact ⟨s, base, e, h1.up hu, h2⟩
theorem SmO.setRow {w : World} {g : Nat} {v : Value} {N : Int} {l : List Int} {C D : Array Value} (h : SmO w v N l) (hg : Blk w g 24 C) : SmO (w.setRow g D) v N l := by
  obtain ⟨s, base, e, h1, h2⟩ := h
  exact ⟨s, base, e, h1.setRow hg, h2⟩
theorem SmO.zero (w : World) : SmO w (.agg #[.int .i64 0, .slice none 0 0]) 0 [] := ⟨_, 0, rfl, OwnI.nil _ _, by unfold I64; omega, fun i hi => absurd hi (Nat.not_lt_zero _), by simp⟩
def SymPost (w : World) (N : Int) (l : List Int) (e : Int) (r : Ending) (w' : World) : Prop := ∃ z u, r = .returned (.tuple #[z, u]) ∧ Up w w' ∧ SmO w' z N l ∧ Errs w' u e
theorem SymPost.err {w w' : World} {g : Nat} {C : Array Value} {u : Value} {e : Int} (hu : Up w w') (hg : w.heap.size ≤ g) (hB : Blk w' g 24 C) (hE : Errs w' u e) :
    SymPost w 0 [] e (.returned (.tuple #[.agg #[.int .i64 0, .slice none 0 0], u])) (w'.setRow g #[.int .i64 0, .slice none 0 0]) := by
  refine ⟨_, _, rfl, below_setRow hu hg _, SmO.zero _, ?_⟩
  rcases hE with h | ⟨h1, t, x, rfl, h2⟩
  · exact .inl h
  · refine .inr ⟨h1, t, x, rfl, ?_⟩
    obtain ⟨b, v, e1, e2, e3⟩ := h2
    refine ⟨b, v, e1, e2.row_other _ ?_, e3⟩
    rintro rfl
    unfold Blk at e2 hB
    rw [hB] at e2
    simp at e2
theorem SymPost.ok {w w' : World} {g base : Nat} {C : Array Value} {s : Value} {N : Int} {l : List Int} (hu : Up w w') (hg : w.heap.size ≤ g) (hB : Blk w' g 24 C) (hO : OwnI w' base s l) (hN : I64 N) (hl : In64 l) (hn : l.length ≤ 1000) :
    SymPost w N l 0 (.returned (.tuple #[.agg #[.int .i64 N, s], .nilIface])) (w'.setRow g #[.int .i64 N, s]) :=
  ⟨_, _, rfl, below_setRow hu hg _, ⟨s, base, rfl, hO.setRow hB, hN, hl, hn⟩, Errs.none_ _⟩
theorem OwnI.slice {w : World} {base : Nat} {v : Value} {l : List Int} (h : OwnI w base v l) : ∃ p n c, v = .slice p n c := by
  obtain ⟨p, c, e, _⟩ := h.vw
  exact ⟨p, _, c, e⟩
set_option linter.unusedSimpArgs false
section
variable {P : Program} {ops : Array Oper} {Q : Exit → Act → World → Prop} {md : Region.Mode}
def LeavesR (P : Program) (R : Value → World → Prop) (w : World) : Result Next → Prop
  | .ok (.value u) w' => R u w' ∧ Up w w'
  | .ok (.enter f args) w' => Up w w' ∧ Calls P f args w' fun e w'' => Up w' w'' ∧ ∃ v, e = .returned v ∧ R v w''
  | _ => False
theorem leavesR_value {R : Value → World → Prop} {w : World} {r : Result Next} {u : Value} (h : r = .ok (.value u) w) (hR : R u w) : LeavesR P R w r := by subst h; exact ⟨hR, Up.refl _⟩
theorem leavesR_call {R : Value → World → Prop} {w : World} {r : Result Next} {f : FuncId} {args : Array Value} (h : r = .ok (.enter f args) w) (hc : Calls P f args w fun e w'' => Up w w'' ∧ ∃ v, e = .returned v ∧ R v w'') : LeavesR P R w r := by subst h; exact ⟨Up.refl _, hc⟩
def relB (md : Region.Mode) (ops : Array Oper) (n st : Nat) : Bool :=
  ((List.range ops.size).all fun i => ((ops[i]?).map fun o => o.guard.isNone && (o.after.all fun e => !Region.binds md e || decide (e.on < i)) &&
    (if i = st then o.dst.isNone else ((o.dst.map fun d => decide (d < n)).getD false) && (List.range ops.size).all fun j => j == i || ((ops[j]?).map fun o' => o'.dst != o.dst).getD true)).getD false) &&
  (decide (ops.size ≤ st) || (List.range ops.size).all fun j => j == st || waitsU md ops j ops.size st)
structure RelEv (ops : Array Oper) (md : Region.Mode) (R : Nat → Value → World → Prop) (a0 : Act) (o : Oper) (ev : Operand → Value) (w : World) : Prop where
  const : ∀ c, ev (.const c) = c
  func : ∀ f, ev (.func f) = .func (.func f) #[] #[]
  global : ∀ g, ev (.global g) = .pointer (some ⟨g, 0, none⟩)
  other : ∀ s, (∀ o' ∈ ops, o'.dst ≠ some s) → ev (.tmp s) = a0.eval (.tmp s)
  dep : ∀ j o' d, ops[j]? = some o' → (∃ e ∈ o.after, Region.binds md e = true ∧ e.on = j) → o'.dst = some d → R j (ev (.tmp d)) w
structure RelInv (ops : Array Oper) (R : Nat → Value → World → Prop) (a0 : Act) (listed : Array Bool) (a : Act) (w : World) : Prop where
  defers : a.defers = a0.defers
  size : a.tmps.size = a0.tmps.size
  lsize : listed.size = ops.size
  other : ∀ s, (∀ o' ∈ ops, o'.dst ≠ some s) → a.tmps[s]? = a0.tmps[s]?
  done : ∀ i o d, ops[i]? = some o → listed.getD i false = true → o.dst = some d → R i (a.tmps.getD d undef) w
theorem relB_op {n st : Nat} (h : relB md ops n st = true) {i : Nat} {o : Oper} (hi : ops[i]? = some o) :
    o.guard = none ∧ (∀ e ∈ o.after, Region.binds md e = true → e.on < i) ∧ (i = st → o.dst = none) ∧
    (i ≠ st → ∃ d, o.dst = some d ∧ d < n ∧ ∀ j o', ops[j]? = some o' → j ≠ i → o'.dst ≠ some d) := by
  unfold relB at h
  rw [Bool.and_eq_true] at h
  have hlt : i < ops.size := (Array.getElem?_eq_some_iff.1 hi).1
  have h1 := List.all_eq_true.1 h.1 i (List.mem_range.2 hlt)
  rw [hi] at h1
  simp only [Option.map_some, Option.getD_some, Bool.and_eq_true] at h1
  obtain ⟨⟨h2, h3⟩, h4⟩ := h1
  refine ⟨Option.isNone_iff_eq_none.1 h2, fun e he hb => ?_, fun hs => ?_, fun hs => ?_⟩
  · have := Array.all_eq_true_iff_forall_mem.1 h3 e he
    simpa [hb] using this
  · rw [if_pos hs] at h4
    exact Option.isNone_iff_eq_none.1 h4
  · rw [if_neg hs, Bool.and_eq_true] at h4
    cases hd : o.dst with
    | none => rw [hd] at h4; simp at h4
    | some d =>
      rw [hd] at h4
      refine ⟨d, rfl, by simpa using h4.1, fun j o' hj hji => ?_⟩
      have h5 := List.all_eq_true.1 h4.2 j (List.mem_range.2 (Array.getElem?_eq_some_iff.1 hj).1)
      rw [hj] at h5
      simp only [Option.map_some, Option.getD_some, Bool.or_eq_true, beq_iff_eq, bne_iff_ne] at h5
      exact h5.resolve_left hji
theorem relB_store {n st : Nat} (h : relB md ops n st = true) {j : Nat} (hj : j < ops.size) (hs : st < ops.size) (hne : j ≠ st) : waitsU md ops j ops.size st = true := by
  unfold relB at h
  rw [Bool.and_eq_true, Bool.or_eq_true] at h
  rcases h.2 with h2 | h2
  · have := of_decide_eq_true h2; omega
  · have := List.all_eq_true.1 h2 j (List.mem_range.2 hj)
    simpa [hne] using this
def leftU (n : Nat) (listed : Array Bool) : Nat := ((List.range n).filter fun j => !listed.getD j true).length
theorem leftU_set {n i : Nat} {listed : Array Bool} (hi : i < n) (hl : listed.getD i true = false) : leftU n (listed.setIfInBounds i true) + 1 ≤ leftU n listed := by
  unfold leftU
  rw [← List.countP_eq_length_filter, ← List.countP_eq_length_filter]
  have hsz : i < listed.size := by
    rcases Nat.lt_or_ge i listed.size with h | h
    · exact h
    · simp [Array.getElem?_eq_none h] at hl
  have key : ∀ m, i < m → (List.range m).countP (fun j => !(listed.setIfInBounds i true).getD j true) + 1 ≤ (List.range m).countP (fun j => !listed.getD j true) := by
    intro m
    induction m with
    | zero => intro h; omega
    | succ m ih =>
      intro h
      rw [List.range_succ, List.countP_append, List.countP_append]
      simp only [List.countP_cons, List.countP_nil, Nat.zero_add]
      by_cases him : i = m
      · subst him
        have e0 : (List.range i).countP (fun j => !(listed.setIfInBounds i true).getD j true) = (List.range i).countP (fun j => !listed.getD j true) := by
          apply List.countP_congr
          intro j hj
          have hji : i ≠ j := by have := List.mem_range.1 hj; omega
          rw [getD_set_ne true hji]
        rw [e0, hl]
        have e1 : (listed.setIfInBounds i true).getD i true = true := by simp [hsz]
        rw [e1]
        simp
      · have := ih (by omega)
        rw [getD_set_ne true him]
        omega
  exact key n hi
theorem leftU_zero {n : Nat} {listed : Array Bool} (h : leftU n listed = 0) {j : Nat} (hj : j < n) : listed.getD j true = true := by
  unfold leftU at h
  have := List.filter_eq_nil_iff.1 (List.length_eq_zero_iff.1 h) j (List.mem_range.2 hj)
  simpa using this
theorem exists_ready {n st : Nat} (hB : relB md ops n st = true) {listed : Array Bool} (hs : listed.size = ops.size) : ∀ k, k < ops.size → listed.getD k true = false → ∃ i, i ∈ Region.ready md ops listed := by
  intro k
  induction k using Nat.strongRecOn with
  | _ k ih =>
    intro hk hl
    obtain ⟨o, ho⟩ : ∃ o, ops[k]? = some o := ⟨ops[k], Array.getElem?_eq_getElem hk⟩
    obtain ⟨_, h2, _⟩ := relB_op hB ho
    by_cases hall : ∀ e ∈ o.after, Region.binds md e = true → listed.getD e.on false = true
    · exact ⟨k, mem_ready.2 ⟨hl, o, ho, hall⟩⟩
    · obtain ⟨e, hne⟩ := Classical.not_forall.1 hall
      obtain ⟨he, hne⟩ := Classical.not_imp.1 hne
      obtain ⟨hb, hne⟩ := Classical.not_imp.1 hne
      have hlt := h2 e he hb
      refine ih e.on hlt (by omega) ?_
      have hsz : e.on < listed.size := by omega
      simp [hsz] at hne ⊢
      exact hne
theorem wpAny_rel {n st : Nat} {R : Nat → Value → World → Prop} {S : World → Prop} {a0 : Act} {w0 : World} (hn : a0.tmps.size = n) (hB : relB md ops n st = true)
    (hR : ∀ i v w w', R i v w → Up w w' → R i v w') (hS : ∀ w w', S w → Up w w' → S w')
    (hop : ∀ i o, ops[i]? = some o → i ≠ st → ∀ ev w, S w → RelEv ops md R a0 o ev w → LeavesR P (R i) w ((execOp ev o).run P w))
    (hfin : ∀ a w, a.tmps.size = a0.tmps.size → a.defers = a0.defers → (∀ s, (∀ o' ∈ ops, o'.dst ≠ some s) → a.tmps[s]? = a0.tmps[s]?) → (∀ i o d, ops[i]? = some o → i ≠ st → o.dst = some d → R i (a.tmps.getD d undef) w) → S w → Up w0 w →
      (ops.size ≤ st → Q .normal a w) ∧ (∀ o, ops[st]? = some o → Oper.wp P o a w (Q .normal) Q)) :
    ∀ (fuel : Nat) (listed : Array Bool) (a : Act) (w : World), leftU ops.size listed ≤ fuel → closedU md ops listed → (st < ops.size → listed.getD st true = false) → RelInv ops R a0 listed a w → S w → Up w0 w → wpAny P md ops Q fuel listed a w := by
  intro fuel
  induction fuel with
  | zero =>
    intro listed a w hf hcl hst hI hSw hu
    have hz := fun {j} => leftU_zero (listed := listed) (n := ops.size) (by omega) (j := j)
    have hst' : ops.size ≤ st := by
      rcases Nat.lt_or_ge st ops.size with h | h
      · have := hst h; rw [hz h] at this; cases this
      · exact h
    refine ⟨?_, ?_⟩
    · cases hrd : Region.ready md ops listed with
      | nil => rfl
      | cons i l =>
        obtain ⟨h1, o, ho, _⟩ := mem_ready.1 (show i ∈ Region.ready md ops listed by rw [hrd]; exact List.mem_cons_self)
        rw [hz (Array.getElem?_eq_some_iff.1 ho).1] at h1
        cases h1
    · refine (hfin a w hI.size hI.defers hI.other (fun i o d ho hi hd => hI.done i o d ho ?_ hd) hSw hu).1 hst'
      have h1 := hz (Array.getElem?_eq_some_iff.1 ho).1
      have h2 : i < listed.size := by rw [hI.lsize]; exact (Array.getElem?_eq_some_iff.1 ho).1
      simp [h2] at h1 ⊢
      exact h1
  | succ fuel ih =>
    intro listed a w hf hcl hst hI hSw hu
    have hcase : Region.ready md ops listed = [] → ∀ j, j < ops.size → listed.getD j true = true := by
      intro hr j hj
      cases hl : listed.getD j true with
      | true => rfl
      | false =>
        obtain ⟨i, hi⟩ := exists_ready hB hI.lsize j hj hl
        rw [hr] at hi
        cases hi
    have hfull : ∀ (hz : ∀ j, j < ops.size → j ≠ st → listed.getD j true = true) (i : Nat) (o : Oper) (d : Tmp), ops[i]? = some o → i ≠ st → o.dst = some d → R i (a.tmps.getD d undef) w := by
      intro hz i o d ho hi hd
      refine hI.done i o d ho ?_ hd
      have h1 := hz i (Array.getElem?_eq_some_iff.1 ho).1 hi
      have h2 : i < listed.size := by rw [hI.lsize]; exact (Array.getElem?_eq_some_iff.1 ho).1
      simp [h2] at h1 ⊢
      exact h1
    refine ⟨fun hr => ?_, fun i hi => ?_⟩
    · have hz := hcase hr
      have hst' : ops.size ≤ st := by
        rcases Nat.lt_or_ge st ops.size with h | h
        · have := hst h; rw [hz st h] at this; cases this
        · exact h
      exact (hfin a w hI.size hI.defers hI.other (hfull fun j hj _ => hz j hj) hSw hu).1 hst'
    · obtain ⟨hun, o, ho, hall⟩ := mem_ready.1 hi
      have hlt : i < ops.size := (Array.getElem?_eq_some_iff.1 ho).1
      obtain ⟨hg, _, hdn, hds⟩ := relB_op hB ho
      have hw : Region.wanted o (yielded ops a.tmps) = true := by simp [Region.wanted, hg]
      unfold wpOp
      simp only [ho, hw, if_true]
      refine .inl ?_
      by_cases his : i = st
      · subst his
        have hz : ∀ j, j < ops.size → j ≠ i → listed.getD j true = true := by
          intro j hj hne
          have h1 := waitsU_spec hcl ops.size i o ho hall (relB_store hB hj hlt hne)
          have h2 : j < listed.size := by rw [hI.lsize]; exact hj
          simp [h2] at h1 ⊢
          exact h1
        have h1 := (hfin a w hI.size hI.defers hI.other (hfull hz) hSw hu).2 o ho
        have hnil : Region.ready md ops (listed.setIfInBounds i true) = [] := by
          cases hrd : Region.ready md ops (listed.setIfInBounds i true) with
          | nil => rfl
          | cons k l =>
            obtain ⟨h1, ok, hok, _⟩ := mem_ready.1 (show k ∈ Region.ready md ops (listed.setIfInBounds i true) by rw [hrd]; exact List.mem_cons_self)
            have hk : k < ops.size := (Array.getElem?_eq_some_iff.1 hok).1
            by_cases hki : k = i
            · subst hki
              have h2 : k < listed.size := by rw [hI.lsize]; exact hk
              simp [h2] at h1
            · rw [getD_set_ne true (Ne.symm hki), hz k hk hki] at h1
              cases h1
        refine Oper.wp_mono (fun a' w' hq => ?_) h1
        cases fuel with
        | zero => exact ⟨hnil, hq⟩
        | succ f => exact ⟨fun _ => hq, by rw [hnil]; intro j hj; cases hj⟩
      · obtain ⟨d, hd, hdl, hdd⟩ := hds his
        have hev : RelEv ops md R a0 o a.eval w := by
          refine ⟨fun _ => rfl, fun _ => rfl, fun _ => rfl, fun s hs => ?_, fun j o' d' hj he hd' => ?_⟩
          · show a.tmps.getD s undef = a0.tmps.getD s undef
            rw [Array.getD_eq_getD_getElem?, Array.getD_eq_getD_getElem?, hI.other s hs]
          · obtain ⟨e, he, hb, rfl⟩ := he
            exact hI.done e.on o' d' hj (hall e he hb) hd'
        have h1 := hop i o ho his a.eval w hSw hev
        have hnext : ∀ v w', R i v w' → Up w w' → wpAny P md ops Q fuel (listed.setIfInBounds i true) (a.put o.dst v) w' := by
          intro v w' hv hu'
          refine ih _ _ _ ?_ (closedU_set hcl hi) (fun h => ?_) ?_ (hS _ _ hSw hu') (hu.trans hu')
          · have := leftU_set (n := ops.size) hlt hun; omega
          · rw [getD_set_ne true his]; exact hst h
          · rw [hd]
            refine ⟨hI.defers, by simp [Act.put, hI.size], by simp [hI.lsize], fun s hs => ?_, fun j o' d' hj hl hd' => ?_⟩
            · have hne : d ≠ s := by
                rintro rfl
                obtain ⟨hx, hy⟩ := Array.getElem?_eq_some_iff.1 ho
                exact hs o (by rw [← hy]; exact Array.getElem_mem hx) hd
              rw [← hI.other s hs]
              simp [Act.put, hne]
            · by_cases hji : j = i
              · subst hji
                rw [ho] at hj
                obtain rfl := Option.some.inj hj
                rw [hd] at hd'
                obtain rfl := Option.some.inj hd'
                have hds : d < a.tmps.size := by rw [hI.size, hn]; exact hdl
                have e : ((a.put (some d) v).tmps.getD d undef) = v := by simp [Act.put, hds]
                rw [e]
                exact hv
              · have hne : d ≠ d' := fun e => hdd j o' hj hji (by rw [hd', e])
                rw [getD_set_ne false (Ne.symm hji)] at hl
                have e : ((a.put (some d) v).tmps.getD d' undef) = a.tmps.getD d' undef := by
                  rw [Array.getD_eq_getD_getElem?, Array.getD_eq_getD_getElem?]
                  simp [Act.put, hne]
                rw [e]
                exact hR j _ _ _ (hI.done j o' d' hj hl hd') hu'
        unfold Oper.wp
        generalize (execOp a.eval o).run P w = r at *
        cases r with
        | halt x w' => exact h1.elim
        | ok nx w' =>
          cases nx with
          | value u => exact hnext u w' h1.1 h1.2
          | enter f args =>
            obtain ⟨hu', hc⟩ := h1
            refine Calls.mono hc fun e w'' he => ?_
            obtain ⟨hu2, v, rfl, hv⟩ := he
            exact hnext v w'' hv (hu'.trans hu2)
          | _ => exact h1.elim
def putL (a : Act) : List (Tmp × Value) → Act
  | [] => a
  | p :: l => putL (a.put (some p.1) p.2) l
theorem putL_size (l : List (Tmp × Value)) : ∀ a : Act, (putL a l).tmps.size = a.tmps.size := by
  induction l with
  | nil => intro a; rfl
  | cons p l ih => intro a; show (putL _ l).tmps.size = _; rw [ih]; simp [Act.put]
theorem putL_defers (l : List (Tmp × Value)) : ∀ a : Act, (putL a l).defers = a.defers := by
  induction l with
  | nil => intro a; rfl
  | cons p l ih => intro a; show (putL _ l).defers = _; rw [ih]; rfl
theorem putL_get (g : Nat → Value) (ds : List Tmp) : ∀ (a : Act) (s : Tmp), s < a.tmps.size → (putL a (ds.map fun d => (d, g d))).tmps[s]? = if s ∈ ds then some (g s) else a.tmps[s]? := by
  induction ds with
  | nil => intro a s _; simp [putL]
  | cons d ds ih =>
    intro a s hs
    show (putL (a.put (some d) (g d)) (ds.map fun d => (d, g d))).tmps[s]? = _
    rw [ih _ _ (by simpa [Act.put] using hs)]
    by_cases h1 : s ∈ ds
    · simp [h1]
    · by_cases h2 : s = d
      · subst h2; simp [Act.put, hs, h1]
      · simp [h1, h2, Act.put, Ne.symm h2]
theorem putL_eq {a a0 : Act} {ds : List Tmp} (hs : a.tmps.size = a0.tmps.size) (hd : a.defers = a0.defers) (ho : ∀ s, s ∉ ds → a.tmps[s]? = a0.tmps[s]?) :
    a = putL a0 (ds.map fun d => (d, a.tmps.getD d undef)) := by
  have h1 : a.tmps = (putL a0 (ds.map fun d => (d, a.tmps.getD d undef))).tmps := by
    apply Array.ext_getElem?
    intro s
    rcases Nat.lt_or_ge s a0.tmps.size with hlt | hge
    · rw [putL_get (fun d => a.tmps.getD d undef) ds a0 s hlt]
      by_cases h : s ∈ ds
      · simp [h, hs, hlt]
      · simp [h, ho s h]
    · rw [Array.getElem?_eq_none (by omega), Array.getElem?_eq_none (by rw [putL_size]; exact hge)]
  have h2 := putL_defers (ds.map fun d => (d, a.tmps.getD d undef)) a0
  cases a with
  | mk t f =>
    generalize hp : putL a0 (ds.map fun d => (d, (Act.mk t f).tmps.getD d undef)) = b at *
    cases b
    simp only at h1 hd h2
    rw [h1, hd, h2]
theorem wp_region_rel {id : Nat} {a0 : Act} {w0 : World} {n : Nat} (st : Nat) (ds : List Tmp) (R : Nat → Value → World → Prop) (S : World → Prop) (hm : P.follows .mixedOrders = true) (hn : a0.tmps.size = n) (hB : relB .any ops n st = true)
    (hds : ∀ o ∈ ops, ∀ d, o.dst = some d → d ∈ ds)
    (hR : ∀ i v w w', R i v w → Up w w' → R i v w') (hS : ∀ w w', S w → Up w w' → S w') (h0 : S w0)
    (hop : ∀ i o, ops[i]? = some o → i ≠ st → ∀ ev w, S w → RelEv ops .any R a0 o ev w → LeavesR P (R i) w ((execOp ev o).run P w))
    (hfin : ∀ (g : Tmp → Value) w, (∀ i o d, ops[i]? = some o → i ≠ st → o.dst = some d → R i (g d) w) → S w → Up w0 w →
      (ops.size ≤ st → Q .normal (putL a0 (ds.map fun d => (d, g d))) w) ∧ (∀ o, ops[st]? = some o → Oper.wp P o (putL a0 (ds.map fun d => (d, g d))) w (Q .normal) Q)) :
    (Code.region id ops true).wp P Q a0 w0 := by
  refine wp_region_any hm (wpAny_rel hn hB hR hS hop (fun a w hs hd ho hr hSw hu => ?_) _ _ _ _ ?_ ?_ ?_ ?_ (hS _ _ h0 (Up.drew w0)) (Up.drew w0))
  · rw [putL_eq (ds := ds) hs hd (fun s hs' => ho s fun o' hm he => hs' (hds o' hm s he))]
    exact hfin (fun d => a.tmps.getD d undef) w hr hSw hu
  · unfold leftU; exact Nat.le_trans (List.length_filter_le _ _) (by simp)
  · intro j oj hj hl
    have : j < ops.size := (Array.getElem?_eq_some_iff.1 hj).1
    simp [this] at hl
  · intro h; simp [h]
  · refine ⟨rfl, rfl, by simp, fun _ _ => rfl, fun i o d ho hl _ => ?_⟩
    have : i < ops.size := (Array.getElem?_eq_some_iff.1 ho).1
    simp [this] at hl
structure SP where
  p : Value → World → Prop
  up : ∀ v w w', p v w → Up w w' → p v w'
def SP.is (c : Value) : SP := ⟨fun v _ => v = c, fun _ _ _ h _ => h⟩
def SP.any : SP := ⟨fun _ _ => True, fun _ _ _ h _ => h⟩
def SP.of (p : Value → World → Prop) (up : ∀ v w w', p v w → Up w w' → p v w') : SP := ⟨p, up⟩
def nthR (L : List SP) (i : Nat) (v : Value) (w : World) : Prop := (L.getD i SP.any).p v w
def freeB (ops : Array Oper) (s : Tmp) : Bool := ops.all fun o => o.dst != some s
def depB (md : Region.Mode) (ops : Array Oper) (i j : Nat) (d : Tmp) : Bool :=
  match ops[i]?, ops[j]? with
  | some o, some o' => (o.after.any fun e => Region.binds md e && e.on == j) && o'.dst == some d
  | _, _ => false
def dstB (ops : Array Oper) (j : Nat) (d : Tmp) : Bool := match ops[j]? with | some o' => o'.dst == some d | none => false
def dsB (ops : Array Oper) (ds : List Tmp) : Bool := ops.all fun o => match o.dst with | some d => ds.contains d | none => true
structure EvR (ops : Array Oper) (L : List SP) (a0 : Act) (i : Nat) (ev : Operand → Value) (w : World) : Prop where
  const : ∀ c, ev (.const c) = c
  func : ∀ f, ev (.func f) = .func (.func f) #[] #[]
  global : ∀ g, ev (.global g) = .pointer (some ⟨g, 0, none⟩)
  other : ∀ s, freeB ops s = true → ev (.tmp s) = a0.eval (.tmp s)
  dep : ∀ j d, depB .any ops i j d = true → nthR L j (ev (.tmp d)) w
theorem wp_region_sp {id : Nat} {a0 : Act} {w0 : World} {n : Nat} (st : Nat) (ds : List Tmp) (L : List SP) (S : World → Prop) (hm : P.follows .mixedOrders = true) (hn : a0.tmps.size = n) (hB : relB .any ops n st = true)
    (hds : dsB ops ds = true) (hS : ∀ w w', S w → Up w w' → S w') (h0 : S w0)
    (hop : ∀ ev w, S w → ∀ i o, i ≠ st → ops[i]? = some o → EvR ops L a0 i ev w → LeavesR P (nthR L i) w ((execOp ev o).run P w))
    (hfin : ∀ (g : Tmp → Value) w, (∀ i d, i ≠ st → dstB ops i d = true → nthR L i (g d) w) → S w → Up w0 w →
      (ops.size ≤ st → Q .normal (putL a0 (ds.map fun d => (d, g d))) w) ∧ (∀ o, ops[st]? = some o → Oper.wp P o (putL a0 (ds.map fun d => (d, g d))) w (Q .normal) Q)) :
    (Code.region id ops true).wp P Q a0 w0 := by
  refine wp_region_rel (n := n) st ds (nthR L) S hm hn hB (fun o ho d hd => ?_) (fun i v w w' h hu => (L.getD i SP.any).up v w w' h hu) hS h0 (fun i o hi hne ev w hSw hev => ?_) (fun g w hr => hfin g w fun i d hne hd => ?_)
  · have := Array.all_eq_true_iff_forall_mem.1 hds o ho
    simpa [hd] using this
  · refine hop ev w hSw i o hne hi ⟨hev.const, hev.func, hev.global, fun s hs => hev.other s fun o' ho' => ?_, fun j d hj => ?_⟩
    · have := Array.all_eq_true_iff_forall_mem.1 hs o' ho'
      simpa using this
    · unfold depB at hj
      rw [hi] at hj
      cases hoj : ops[j]? with
      | none => rw [hoj] at hj; cases hj
      | some o' =>
        rw [hoj] at hj
        simp only [Bool.and_eq_true, Array.any_eq_true', beq_iff_eq] at hj
        obtain ⟨⟨e, he, hb, hon⟩, hd⟩ := hj
        exact hev.dep j o' d hoj ⟨e, he, hb, hon⟩ hd
  · unfold dstB at hd
    cases ho : ops[i]? with
    | none => rw [ho] at hd; cases hd
    | some o' =>
      rw [ho] at hd
      exact hr i o' d ho hne (by simpa using hd)
end
end Go.Proofs.YtnpaodlhhcnbgaaGreatDoor
