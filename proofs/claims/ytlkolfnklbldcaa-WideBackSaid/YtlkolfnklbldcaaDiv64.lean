/-
  math/bits.Div64: two limbs by one.
-/
import Derived.Test.YtlkolfnklbldcaaNum
import Derived.Test.YtlkolfnklbldcaaHalf
import Derived.Deep.DeepCutAuto
import Derived.Deep.QuietTactic
import Derived.BigQuiet
import Derived.Deep.CutBlock
namespace Go.Proofs.Ytlkolfnklbldcaa
open Go Go.RowKit
set_option maxRecDepth 100000

theorem and32 (x : Nat) : x &&& 4294967295 = x % 4294967296 := Nat.and_two_pow_sub_one_eq_mod x 32
/-- What the division's beginning makes of its numbers. -/
theorem div64_pre {hi lo y : Nat} (hy : y < 18446744073709551616) (hlo : lo < 18446744073709551616) (hlt : hi < y) (s : Nat) (hs : s = 64 - Lib.bitLen y) :
    s < 64 ∧ y * 2 ^ s % 18446744073709551616 = y * 2 ^ s ∧ 9223372036854775808 ≤ y * 2 ^ s ∧ y * 2 ^ s < 18446744073709551616 ∧
    (hi * 2 ^ s % 18446744073709551616 ||| lo / 2 ^ (64 - s)) < y * 2 ^ s ∧
    18446744073709551616 * (hi * 2 ^ s % 18446744073709551616 ||| lo / 2 ^ (64 - s)) + lo * 2 ^ s % 18446744073709551616 = (18446744073709551616 * hi + lo) * 2 ^ s := by
  have h0 : y ≠ 0 := by omega
  obtain ⟨b1, b2, b3, b4⟩ := bitLen_spec hy h0
  have e64 : 2 ^ s * 2 ^ (Lib.bitLen y) = (18446744073709551616 : Nat) := by rw [← Nat.pow_add, show s + Lib.bitLen y = 64 by omega]
  have e63 : 2 ^ (Lib.bitLen y - 1) * 2 ^ s = (9223372036854775808 : Nat) := by rw [← Nat.pow_add, show Lib.bitLen y - 1 + s = 63 by omega]
  have hs64 : s < 64 := by omega
  have h1 : 9223372036854775808 ≤ y * 2 ^ s := by rw [← e63]; exact Nat.mul_le_mul_right _ b2
  have h2 : y * 2 ^ s < 18446744073709551616 := by
    rw [← e64, Nat.mul_comm (2 ^ s)]
    exact Nat.mul_lt_mul_of_pos_right b3 (Nat.two_pow_pos s)
  have hps := Nat.two_pow_pos s
  have h3 : (hi + 1) * 2 ^ s ≤ y * 2 ^ s := Nat.mul_le_mul_right _ hlt
  rw [Nat.add_mul, Nat.one_mul] at h3
  have h4 : hi * 2 ^ s % 18446744073709551616 = hi * 2 ^ s := Nat.mod_eq_of_lt (by omega)
  have e2 : 2 ^ s * 2 ^ (64 - s) = (18446744073709551616 : Nat) := by rw [← Nat.pow_add, show s + (64 - s) = 64 by omega]
  have h5 : lo / 2 ^ (64 - s) < 2 ^ s := by
    rw [Nat.div_lt_iff_lt_mul (Nat.two_pow_pos _), e2]; exact hlo
  have h6 : (hi * 2 ^ s ||| lo / 2 ^ (64 - s)) = hi * 2 ^ s + lo / 2 ^ (64 - s) := by rw [Nat.mul_comm]; exact or_add h5
  refine ⟨hs64, Nat.mod_eq_of_lt h2, h1, h2, by rw [h4, h6]; omega, ?_⟩
  rw [h4, h6]
  have h7 := shr_low (x := lo) (show s ≤ 64 by omega)
  have h8 := Nat.div_add_mod (lo * 2 ^ s) 18446744073709551616
  rw [← h7, Nat.mul_add, Nat.add_mul, Nat.mul_assoc]
  generalize hi * 2 ^ s = a at *
  generalize lo * 2 ^ s = c at *
  omega
set_option maxRecDepth 100000 in
set_option maxHeartbeats 1000000 in
theorem div64_small (lo y : Nat) (hlo : lo < 18446744073709551616) (h0 : 0 < y) (w : World) :
    Calls Try.prog 64 #[.int .u64 (0 : Nat), .int .u64 lo, .int .u64 y] w fun e w' => e = .returned (.tuple #[.int .u64 ((lo / y : Nat) : Int), .int .u64 ((lo % y : Nat) : Int)]) ∧ Up w w' := by
  have b0 : IsP (y = 0) false := IsP.no (by omega)
  have b1 : IsP (y ≤ 0) false := IsP.no (by omega)
  have b2 : IsP (0 = 0) true := IsP.yes rfl
  go_enter Try.func64, Try.ntmps64
  go_wp2_with (first | ((with_reducible apply eqlBP (Y := 0)); exact rfl; exact rfl; exact rfl; assumption) | ((with_reducible apply leqBP (Y := 0)); exact rfl; exact rfl; exact rfl; assumption))
  refine wp_region_upS (S := (fun wq => Below w.heap.size w wq)) (req := (fun _ => true)) (by kernel_rfl) (fun _ _ h hu => below_up h hu) (by repeat (first | assumption | (with_reducible apply Up.of) | (with_reducible exact Below.refl _ _) | (with_reducible exact Up.refl _) | ((with_reducible apply bl_setRow); (focus (first | exact Nat.le_refl _ | (simp; done) | (simp; omega) | omega))) | (with_reducible apply below_drewN) | (with_reducible apply Below.drew) | ((with_reducible apply bl_alloc); (focus (first | exact Nat.le_refl _ | (simp; done) | (simp; omega) | omega))) | ((with_reducible apply bl_setCell); (focus (first | exact Nat.le_refl _ | (simp; done) | (simp; omega) | omega))) | ((with_reducible apply up_tr); assumption))) (fun wS hSS => ?_)
  have hSB := hSS
  refine wpAnyU_pure (i := 0) (d := (some 28)) (v := ?_) rfl rfl (by kernel_rfl) (fun _ _ _ h => h) (fun _ _ h hu => below_up h hu) (Or.inl ⟨by rfl, fun w' _ => yu_value ?_⟩) ?_
  rotate_left
  · (go_simp; (try exact rfl))
  try simp only [Act.put, List.setIfInBounds_toArray, List.set_cons_zero, List.set_cons_succ]
  refine wpAnyU_pure (i := 1) (d := (some 29)) (v := ?_) rfl rfl (by kernel_rfl) (fun _ _ _ h => h) (fun _ _ h hu => below_up h hu) (Or.inl ⟨by rfl, fun w' _ => yu_value ?_⟩) ?_
  rotate_left
  · (go_simp; (try exact rfl))
  try simp only [Act.put, List.setIfInBounds_toArray, List.set_cons_zero, List.set_cons_succ]
  refine wpAnyU_take (i := 2) (d := (some 30)) (v := _) rfl rfl (by kernel_rfl) (fun _ _ _ h => h) (fun _ _ h hu => below_up h hu) hSS (Or.inl ⟨by rfl, fun w' hSw => yu_value (op_quoN rfl rfl rfl hlo h0 _)⟩) ?_
  try simp only [Act.put, List.setIfInBounds_toArray, List.set_cons_zero, List.set_cons_succ]
  refine wpAnyU_pure (i := 3) (d := (some 31)) (v := ?_) rfl rfl (by kernel_rfl) (fun _ _ _ h => h) (fun _ _ h hu => below_up h hu) (Or.inl ⟨by rfl, fun w' _ => yu_value ?_⟩) ?_
  rotate_left
  · (go_simp; (try exact rfl))
  try simp only [Act.put, List.setIfInBounds_toArray, List.set_cons_zero, List.set_cons_succ]
  refine wpAnyU_pure (i := 4) (d := (some 32)) (v := ?_) rfl rfl (by kernel_rfl) (fun _ _ _ h => h) (fun _ _ h hu => below_up h hu) (Or.inl ⟨by rfl, fun w' _ => yu_value ?_⟩) ?_
  rotate_left
  · (go_simp; (try exact rfl))
  try simp only [Act.put, List.setIfInBounds_toArray, List.set_cons_zero, List.set_cons_succ]
  refine wpAnyU_take (i := 5) (d := (some 33)) (v := _) rfl rfl (by kernel_rfl) (fun _ _ _ h => h) (fun _ _ h hu => below_up h hu) hSS (Or.inl ⟨by rfl, fun w' hSw => yu_value (op_remN rfl rfl rfl hlo h0 _)⟩) ?_
  try simp only [Act.put, List.setIfInBounds_toArray, List.set_cons_zero, List.set_cons_succ]
  refine wpAnyU_pure (i := 6) (d := (some 6)) (v := ?_) rfl rfl (by kernel_rfl) (fun _ _ _ h => h) (fun _ _ h hu => below_up h hu) (Or.inl ⟨by rfl, fun w' _ => yu_value ?_⟩) ?_
  rotate_left
  · (go_simp; (try exact rfl))
  try simp only [Act.put, List.setIfInBounds_toArray, List.set_cons_zero, List.set_cons_succ]
  refine wpAnyU_pure (i := 7) (d := (some 7)) (v := ?_) rfl rfl (by kernel_rfl) (fun _ _ _ h => h) (fun _ _ h hu => below_up h hu) (Or.inl ⟨by rfl, fun w' _ => yu_value ?_⟩) ?_
  rotate_left
  · (go_simp; (try exact rfl))
  try simp only [Act.put, List.setIfInBounds_toArray, List.set_cons_zero, List.set_cons_succ]
  refine wpAnyU_done (by kernel_rfl) (fun wE huE => ?_) _
  have hSB := ((fun _ _ h hu => below_up h hu) : ∀ w1 w2 : World, (fun wq => Below w.heap.size w wq) w1 → Up w1 w2 → (fun wq => Below w.heap.size w wq) w2) _ _ hSS huE
  clear huE hSS
  go_wp2
  go_ret2
  exact ⟨rfl, hSB⟩
set_option maxRecDepth 100000 in
set_option maxHeartbeats 2000000 in
theorem div64_great (hi lo y : Nat) (hy : y < 18446744073709551616) (hlo : lo < 18446744073709551616) (hlt : hi < y) (h0 : 0 < hi) (w : World) :
    Calls Try.prog 64 #[.int .u64 hi, .int .u64 lo, .int .u64 y] w fun e w' => e = .returned (.tuple #[.int .u64 (((18446744073709551616 * hi + lo) / y : Nat) : Int), .int .u64 (((18446744073709551616 * hi + lo) % y : Nat) : Int)]) ∧ Up w w' := by
  have b0 : IsP (y = 0) false := IsP.no (by omega)
  have b1 : IsP (y ≤ hi) false := IsP.no (by omega)
  have b2 : IsP (hi = 0) false := IsP.no (by omega)
  obtain ⟨s, es⟩ : ∃ s, s = 64 - Lib.bitLen y := ⟨_, rfl⟩
  obtain ⟨p1, p2, p3, p4, p5, p6⟩ := div64_pre hy hlo hlt s es
  have hbl := bitLen_spec hy (by omega)
  have hlz := fun w => Try.bits_LeadingZeros64 (y : Nat) w (by omega) (by omega)
  simp only [Int.toNat_natCast] at hlz
  have hcv : IntKind.u64.wrap (64 - (Lib.bitLen y : Int)) = (s : Int) := by rw [IntKind.wrap_u64]; omega
  have HLZ := hid hlz
  obtain ⟨_, _, _, hb64⟩ := hbl
  clear hlz es
  generalize Lib.bitLen y = bl at *
  -- the numbers, each under a name
  obtain ⟨V, eV⟩ : ∃ V, V = y * 2 ^ s := ⟨_, rfl⟩
  obtain ⟨L, eL⟩ : ∃ L, L = lo * 2 ^ s % 18446744073709551616 := ⟨_, rfl⟩
  obtain ⟨H, eH⟩ : ∃ H, H = hi * 2 ^ s % 18446744073709551616 := ⟨_, rfl⟩
  obtain ⟨M, eM⟩ : ∃ M, M = lo / 2 ^ (64 - s) := ⟨_, rfl⟩
  rw [← eH, ← eM] at p5 p6
  obtain ⟨U, eU⟩ : ∃ U, U = (H ||| M) := ⟨_, rfl⟩
  rw [← eV, ← eU] at p5
  rw [← eL, ← eU] at p6
  rw [← eV] at p2 p3 p4
  have hH : H < 18446744073709551616 := by rw [eH]; exact Nat.mod_lt _ (by decide)
  have hM : M < 18446744073709551616 := by rw [eM]; exact Nat.lt_of_le_of_lt (Nat.div_le_self _ _) hlo
  have hL : L < 18446744073709551616 := by rw [eL]; exact Nat.mod_lt _ (by decide)
  obtain ⟨V1, eV1⟩ : ∃ x, x = V / 2 ^ 32 := ⟨_, rfl⟩
  obtain ⟨V0, eV0⟩ : ∃ x, x = (V &&& 4294967295) := ⟨_, rfl⟩
  obtain ⟨L1, eL1⟩ : ∃ x, x = L / 2 ^ 32 := ⟨_, rfl⟩
  obtain ⟨L0, eL0⟩ : ∃ x, x = (L &&& 4294967295) := ⟨_, rfl⟩
  have HV : Hid (y * 2 ^ s % 18446744073709551616 = V) := hid (by rw [eV] at p2 ⊢; exact p2)
  have HH := hid eH.symm
  have HM := hid eM.symm
  have HU := hid eU.symm
  have HL := hid eL.symm
  have HV1 := hid eV1.symm
  have HV0 := hid eV0.symm
  have HL1 := hid eL1.symm
  have HL0 := hid eL0.symm
  have HM2 : Hid (lo / 2 ^ ((64 + 18446744073709551616 - s) % 18446744073709551616) = M) := hid (by rw [show (64 + 18446744073709551616 - s) % 18446744073709551616 = 64 - s by omega]; exact HM.out)
  rw [and32] at eV0 eL0
  have v1 : 2147483648 ≤ V1 := by omega
  have v2 : V1 < 4294967296 := by omega
  have v3 : V0 < 4294967296 := by omega
  have v4 : V = 4294967296 * V1 + V0 := by omega
  have l1 : L1 < 4294967296 := by omega
  have l0 : L0 < 4294967296 := by omega
  have l2 : L = 4294967296 * L1 + L0 := by omega
  have hU : U < 18446744073709551616 := by omega
  have HN := hid p6
  have HEV := hid eV
  have HV4 := hid v4
  have HL2 := hid l2
  have hV1p : 0 < V1 := by omega
  have hs64 : s ≤ 64 := by omega
  have hs64b : s < 18446744073709551616 := by omega
  have hs64c : (64 + 18446744073709551616 - s) % 18446744073709551616 ≤ 64 := by omega
  clear eV eL eH eM eU eV1 eV0 eL1 eL0 p6 p2 v4 l2
  obtain ⟨q0, eq0⟩ : ∃ x, x = U / V1 := ⟨_, rfl⟩
  obtain ⟨P0, eP0⟩ : ∃ x, x = q0 * V1 % 18446744073709551616 := ⟨_, rfl⟩
  have hq0 : q0 * V1 + U % V1 = U := by rw [eq0, Nat.mul_comm]; exact Nat.div_add_mod U V1
  obtain ⟨r0, er0⟩ : ∃ x, x = U % V1 := ⟨_, rfl⟩
  rw [← er0] at hq0
  have hP0 : P0 < 18446744073709551616 := by rw [eP0]; exact Nat.mod_lt _ (by decide)
  have eP0' : P0 = q0 * V1 := by rw [eP0]; exact Nat.mod_eq_of_lt (by omega)
  have HQ0 := hid eq0.symm
  have HP0 := hid eP0.symm
  have HR0 : Hid ((U + 18446744073709551616 - P0) % 18446744073709551616 = r0) := hid (by omega)
  have hun := p5
  rw [HV4.out, Nat.mul_comm] at hun
  have hst := half_start v1 v2 v3 l1 (by rw [Nat.mul_comm]; exact hun)
  rw [← eq0, ← er0] at hst
  have HST := hid hst
  have hun : U < 4294967296 * V1 + V0 := by rw [Nat.mul_comm]; exact hun
  clear eq0 eP0 hq0 er0 eP0' hst
  go_enter Try.func64, Try.ntmps64
  go_upto_block 0 with (first | ((with_reducible apply eqlBP (Y := 0)); exact rfl; exact rfl; exact rfl; (with_reducible assumption)) | ((with_reducible apply leqBP); exact rfl; exact rfl; exact rfl; (with_reducible assumption)) | (go_at_call 65; refine (HLZ.out _).mono ?_; rintro e w' ⟨rfl, rfl⟩) | ((with_reducible apply shrNP (Y := 32)); exact rfl; exact rfl; exact rfl; decide; (try rw [HV.out]); (try rw [HV1.out]); (try rw [HV0.out]); (try rw [HU.out]); (try rw [HL.out]); (try rw [HL1.out]); (try rw [HL0.out]); (try rw [HH.out]); (try rw [HM2.out]); (try rw [HQ0.out]); (try rw [HP0.out]); (try rw [HR0.out])) | ((with_reducible apply andNP (Y := 4294967295)); exact rfl; exact rfl; exact rfl; assumption; decide; (try rw [HV.out]); (try rw [HV1.out]); (try rw [HV0.out]); (try rw [HU.out]); (try rw [HL.out]); (try rw [HL1.out]); (try rw [HL0.out]); (try rw [HH.out]); (try rw [HM2.out]); (try rw [HQ0.out]); (try rw [HP0.out]); (try rw [HR0.out])) | ((with_reducible apply shlNP); exact rfl; exact rfl; exact rfl; exact hs64; (try rw [HV.out]); (try rw [HV1.out]); (try rw [HV0.out]); (try rw [HU.out]); (try rw [HL.out]); (try rw [HL1.out]); (try rw [HL0.out]); (try rw [HH.out]); (try rw [HM2.out]); (try rw [HQ0.out]); (try rw [HP0.out]); (try rw [HR0.out])) | ((with_reducible apply subNP (X := 64)); exact rfl; exact rfl; exact rfl; exact hs64b; (try rw [HV.out]); (try rw [HV1.out]); (try rw [HV0.out]); (try rw [HU.out]); (try rw [HL.out]); (try rw [HL1.out]); (try rw [HL0.out]); (try rw [HH.out]); (try rw [HM2.out]); (try rw [HQ0.out]); (try rw [HP0.out]); (try rw [HR0.out])) | ((with_reducible apply shrNP); exact rfl; exact rfl; exact rfl; exact hs64c; (try rw [HV.out]); (try rw [HV1.out]); (try rw [HV0.out]); (try rw [HU.out]); (try rw [HL.out]); (try rw [HL1.out]); (try rw [HL0.out]); (try rw [HH.out]); (try rw [HM2.out]); (try rw [HQ0.out]); (try rw [HP0.out]); (try rw [HR0.out])) | ((with_reducible apply orNP); exact rfl; exact rfl; exact rfl; assumption; assumption; (try rw [HV.out]); (try rw [HV1.out]); (try rw [HV0.out]); (try rw [HU.out]); (try rw [HL.out]); (try rw [HL1.out]); (try rw [HL0.out]); (try rw [HH.out]); (try rw [HM2.out]); (try rw [HQ0.out]); (try rw [HP0.out]); (try rw [HR0.out])) | ((with_reducible apply quoNP); exact rfl; exact rfl; exact rfl; assumption; assumption; (try rw [HV.out]); (try rw [HV1.out]); (try rw [HV0.out]); (try rw [HU.out]); (try rw [HL.out]); (try rw [HL1.out]); (try rw [HL0.out]); (try rw [HH.out]); (try rw [HM2.out]); (try rw [HQ0.out]); (try rw [HP0.out]); (try rw [HR0.out])) | ((with_reducible apply mulNP); exact rfl; exact rfl; exact rfl; (try rw [HV.out]); (try rw [HV1.out]); (try rw [HV0.out]); (try rw [HU.out]); (try rw [HL.out]); (try rw [HL1.out]); (try rw [HL0.out]); (try rw [HH.out]); (try rw [HM2.out]); (try rw [HQ0.out]); (try rw [HP0.out]); (try rw [HR0.out])) | ((with_reducible apply subNP); exact rfl; exact rfl; exact rfl; assumption; (try rw [HV.out]); (try rw [HV1.out]); (try rw [HV0.out]); (try rw [HU.out]); (try rw [HL.out]); (try rw [HL1.out]); (try rw [HL0.out]); (try rw [HH.out]); (try rw [HM2.out]); (try rw [HQ0.out]); (try rw [HP0.out]); (try rw [HR0.out])))
  go_cut [15] (fun qv wc => qv = .int .u64 ((hq U (4294967296 * V1 + V0) L1 : Nat) : Int) ∧ wc = w')
  case first =>
    go_wp2
    go_loop [15, 16] (fun qv rv => ∃ q r : Nat, qv = .int .u64 (q : Nat) ∧ rv = .int .u64 (r : Nat) ∧ Half U V1 V0 L1 q r) (fun qv _ => (intOf qv).toNat)
    case atStart => exact ⟨_, _, rfl, rfl, HST.out⟩
    case round =>
      obtain ⟨q, r, rfl, rfl, hh⟩ := hrel
      have hr := hh.lt
      have hql := hh.le
      obtain ⟨q', eq'⟩ : ∃ q', q' = q - 1 := ⟨_, rfl⟩
      obtain ⟨r', er'⟩ : ∃ r', r' = r + V1 := ⟨_, rfl⟩
      have HH := hid hh
      have HEQ := hid eq'
      have HER := hid er'
      have HR' : Hid ((r + V1) % 18446744073709551616 = r') := hid (by omega)
      by_cases hqb : 4294967296 ≤ q
      · have hc : 4294967296 ≤ q ∨ 4294967296 * r + L1 < q * V0 := .inl hqb
        have b3 : IsP (4294967296 ≤ q) true := IsP.yes hqb
        have hmore := half_more HH.out hun l1 hV1p hc
        have hq1 := hmore.1
        have HQ' : Hid ((q + 18446744073709551616 - 1) % 18446744073709551616 = q') := hid (by omega)
        have hmeas : q' < q := by omega
        by_cases hrb : 4294967296 ≤ r'
        · have hbr := half_break HH.out hun l1 hV1p v3 hc (by omega)
          have b4 : IsP (4294967296 ≤ r') true := IsP.yes hrb
          rw [← eq'] at hbr
          have HB := hid hbr
          clear hmore hc hrb hbr hh eq' er'
          go_wp2_with (first | ((with_reducible apply geqBP (Y := 4294967296)); exact rfl; exact rfl; exact rfl; (with_reducible assumption); (try simp only [Act.put, List.setIfInBounds_toArray, List.set_cons_zero, List.set_cons_succ])) | ((with_reducible apply gtrBP); exact rfl; exact rfl; exact rfl; (with_reducible assumption); (try simp only [Act.put, List.setIfInBounds_toArray, List.set_cons_zero, List.set_cons_succ])) | ((with_reducible apply mulNP (X := 4294967296)); exact rfl; exact rfl; exact rfl; rw [HRR.out]; (try simp only [Act.put, List.setIfInBounds_toArray, List.set_cons_zero, List.set_cons_succ])) | ((with_reducible apply mulNP); exact rfl; exact rfl; exact rfl; rw [HPV.out]; (try simp only [Act.put, List.setIfInBounds_toArray, List.set_cons_zero, List.set_cons_succ])) | ((with_reducible apply subNP (Y := 1)); exact rfl; exact rfl; exact rfl; decide; rw [HQ'.out]; (try simp only [Act.put, List.setIfInBounds_toArray, List.set_cons_zero, List.set_cons_succ])) | ((with_reducible apply addNP); exact rfl; exact rfl; exact rfl; (first | rw [HT.out] | rw [HR'.out]); (try simp only [Act.put, List.setIfInBounds_toArray, List.set_cons_zero, List.set_cons_succ])))
          go_meet
          case rel => exact ⟨by rw [HB.out], rfl⟩
        · have hnx := half_next HH.out hun l1 hV1p hc (by omega)
          have b4 : IsP (4294967296 ≤ r') false := IsP.no hrb
          rw [← eq', ← er'] at hnx
          have HB := hid hnx
          clear hmore hc hrb hnx hh eq' er'
          go_wp2_with (first | ((with_reducible apply geqBP (Y := 4294967296)); exact rfl; exact rfl; exact rfl; (with_reducible assumption); (try simp only [Act.put, List.setIfInBounds_toArray, List.set_cons_zero, List.set_cons_succ])) | ((with_reducible apply gtrBP); exact rfl; exact rfl; exact rfl; (with_reducible assumption); (try simp only [Act.put, List.setIfInBounds_toArray, List.set_cons_zero, List.set_cons_succ])) | ((with_reducible apply mulNP (X := 4294967296)); exact rfl; exact rfl; exact rfl; rw [HRR.out]; (try simp only [Act.put, List.setIfInBounds_toArray, List.set_cons_zero, List.set_cons_succ])) | ((with_reducible apply mulNP); exact rfl; exact rfl; exact rfl; rw [HPV.out]; (try simp only [Act.put, List.setIfInBounds_toArray, List.set_cons_zero, List.set_cons_succ])) | ((with_reducible apply subNP (Y := 1)); exact rfl; exact rfl; exact rfl; decide; rw [HQ'.out]; (try simp only [Act.put, List.setIfInBounds_toArray, List.set_cons_zero, List.set_cons_succ])) | ((with_reducible apply addNP); exact rfl; exact rfl; exact rfl; (first | rw [HT.out] | rw [HR'.out]); (try simp only [Act.put, List.setIfInBounds_toArray, List.set_cons_zero, List.set_cons_succ])))
          go_round
          case rel => exact ⟨q', r', rfl, rfl, HB.out⟩
          case measure => simp [intOf]; omega
      · have b3 : IsP (4294967296 ≤ q) false := IsP.no hqb
        have hpv : q * V0 ≤ 4294967295 * 4294967295 := Nat.mul_le_mul (by omega) (by omega)
        obtain ⟨PV, ePV⟩ : ∃ x, x = q * V0 := ⟨_, rfl⟩
        have HPV : Hid (q * V0 % 18446744073709551616 = PV) := hid (by rw [ePV]; exact Nat.mod_eq_of_lt (by omega))
        obtain ⟨RR, eRR⟩ : ∃ x, x = 4294967296 * r := ⟨_, rfl⟩
        have HRR : Hid (4294967296 * r % 18446744073709551616 = RR) := hid (by omega)
        obtain ⟨T, eT⟩ : ∃ x, x = RR + L1 := ⟨_, rfl⟩
        have HT : Hid ((RR + L1) % 18446744073709551616 = T) := hid (by omega)
        by_cases hg : T < PV
        · have hc : 4294967296 ≤ q ∨ 4294967296 * r + L1 < q * V0 := .inr (by omega)
          have b5 : IsP (T < PV) true := IsP.yes hg
          clear hpv ePV eRR eT hqb hg
          have hmore := half_more HH.out hun l1 hV1p hc
          have hq1 := hmore.1
          have HQ' : Hid ((q + 18446744073709551616 - 1) % 18446744073709551616 = q') := hid (by omega)
          have hmeas : q' < q := by omega
          by_cases hrb : 4294967296 ≤ r'
          · have hbr := half_break HH.out hun l1 hV1p v3 hc (by omega)
            have b4 : IsP (4294967296 ≤ r') true := IsP.yes hrb
            rw [← eq'] at hbr
            have HB := hid hbr
            clear hmore hc hrb hbr hh eq' er'
            go_wp2_with (first | ((with_reducible apply geqBP (Y := 4294967296)); exact rfl; exact rfl; exact rfl; (with_reducible assumption); (try simp only [Act.put, List.setIfInBounds_toArray, List.set_cons_zero, List.set_cons_succ])) | ((with_reducible apply gtrBP); exact rfl; exact rfl; exact rfl; (with_reducible assumption); (try simp only [Act.put, List.setIfInBounds_toArray, List.set_cons_zero, List.set_cons_succ])) | ((with_reducible apply mulNP (X := 4294967296)); exact rfl; exact rfl; exact rfl; rw [HRR.out]; (try simp only [Act.put, List.setIfInBounds_toArray, List.set_cons_zero, List.set_cons_succ])) | ((with_reducible apply mulNP); exact rfl; exact rfl; exact rfl; rw [HPV.out]; (try simp only [Act.put, List.setIfInBounds_toArray, List.set_cons_zero, List.set_cons_succ])) | ((with_reducible apply subNP (Y := 1)); exact rfl; exact rfl; exact rfl; decide; rw [HQ'.out]; (try simp only [Act.put, List.setIfInBounds_toArray, List.set_cons_zero, List.set_cons_succ])) | ((with_reducible apply addNP); exact rfl; exact rfl; exact rfl; (first | rw [HT.out] | rw [HR'.out]); (try simp only [Act.put, List.setIfInBounds_toArray, List.set_cons_zero, List.set_cons_succ])))
            go_meet
            case rel => exact ⟨by rw [HB.out], rfl⟩
          · have hnx := half_next HH.out hun l1 hV1p hc (by omega)
            have b4 : IsP (4294967296 ≤ r') false := IsP.no hrb
            rw [← eq', ← er'] at hnx
            have HB := hid hnx
            clear hmore hc hrb hnx hh eq' er'
            go_wp2_with (first | ((with_reducible apply geqBP (Y := 4294967296)); exact rfl; exact rfl; exact rfl; (with_reducible assumption); (try simp only [Act.put, List.setIfInBounds_toArray, List.set_cons_zero, List.set_cons_succ])) | ((with_reducible apply gtrBP); exact rfl; exact rfl; exact rfl; (with_reducible assumption); (try simp only [Act.put, List.setIfInBounds_toArray, List.set_cons_zero, List.set_cons_succ])) | ((with_reducible apply mulNP (X := 4294967296)); exact rfl; exact rfl; exact rfl; rw [HRR.out]; (try simp only [Act.put, List.setIfInBounds_toArray, List.set_cons_zero, List.set_cons_succ])) | ((with_reducible apply mulNP); exact rfl; exact rfl; exact rfl; rw [HPV.out]; (try simp only [Act.put, List.setIfInBounds_toArray, List.set_cons_zero, List.set_cons_succ])) | ((with_reducible apply subNP (Y := 1)); exact rfl; exact rfl; exact rfl; decide; rw [HQ'.out]; (try simp only [Act.put, List.setIfInBounds_toArray, List.set_cons_zero, List.set_cons_succ])) | ((with_reducible apply addNP); exact rfl; exact rfl; exact rfl; (first | rw [HT.out] | rw [HR'.out]); (try simp only [Act.put, List.setIfInBounds_toArray, List.set_cons_zero, List.set_cons_succ])))
            go_round
            case rel => exact ⟨q', r', rfl, rfl, HB.out⟩
            case measure => simp [intOf]; omega
        · have hst := half_stop HH.out hV1p (show q * V0 ≤ 4294967296 * r + L1 by omega)
          have b5 : IsP (T < PV) false := IsP.no hg
          have HB := hid hst
          clear hst hpv ePV eRR eT hqb hg hh eq' er'
          go_wp2_with (first | ((with_reducible apply geqBP (Y := 4294967296)); exact rfl; exact rfl; exact rfl; (with_reducible assumption); (try simp only [Act.put, List.setIfInBounds_toArray, List.set_cons_zero, List.set_cons_succ])) | ((with_reducible apply gtrBP); exact rfl; exact rfl; exact rfl; (with_reducible assumption); (try simp only [Act.put, List.setIfInBounds_toArray, List.set_cons_zero, List.set_cons_succ])) | ((with_reducible apply mulNP (X := 4294967296)); exact rfl; exact rfl; exact rfl; rw [HRR.out]; (try simp only [Act.put, List.setIfInBounds_toArray, List.set_cons_zero, List.set_cons_succ])) | ((with_reducible apply mulNP); exact rfl; exact rfl; exact rfl; rw [HPV.out]; (try simp only [Act.put, List.setIfInBounds_toArray, List.set_cons_zero, List.set_cons_succ])) | ((with_reducible apply subNP (Y := 1)); exact rfl; exact rfl; exact rfl; decide; rw [HQ'.out]; (try simp only [Act.put, List.setIfInBounds_toArray, List.set_cons_zero, List.set_cons_succ])) | ((with_reducible apply addNP); exact rfl; exact rfl; exact rfl; (first | rw [HT.out] | rw [HR'.out]); (try simp only [Act.put, List.setIfInBounds_toArray, List.set_cons_zero, List.set_cons_succ])))
          go_meet
          case rel => exact ⟨by rw [HB.out], rfl⟩
  case rest =>
    obtain ⟨rfl, rfl⟩ := hcut
    have hVV : 4294967296 * V1 + V0 = V := HV4.out.symm
    rw [hVV]
    clear hVV
    have hVp : 0 < V := by omega
    obtain ⟨Q1, eQ1⟩ : ∃ x, x = hq U V L1 := ⟨_, rfl⟩
    rw [← eQ1]
    obtain ⟨U2, eU2⟩ : ∃ x, x = (4294967296 * U + L1) % V := ⟨_, rfl⟩
    have hr2 := half_rest (n1 := L1) (u := U) p4 hVp
    rw [← eQ1, ← eU2, Nat.mul_comm 4294967296 U] at hr2
    have hU2V : U2 < V := by rw [eU2]; exact Nat.mod_lt _ hVp
    have hU2 : U2 < 18446744073709551616 := by omega
    obtain ⟨A1, eA1⟩ : ∃ x, x = U * 4294967296 % 18446744073709551616 := ⟨_, rfl⟩
    rw [← eA1] at hr2
    obtain ⟨A2, eA2⟩ : ∃ x, x = (A1 + L1) % 18446744073709551616 := ⟨_, rfl⟩
    rw [← eA2] at hr2
    obtain ⟨A3, eA3⟩ : ∃ x, x = Q1 * V % 18446744073709551616 := ⟨_, rfl⟩
    rw [← eA3] at hr2
    have hA3 : A3 < 18446744073709551616 := by rw [eA3]; exact Nat.mod_lt _ (by decide)
    have HA1 := hid eA1.symm
    have HA2 := hid eA2.symm
    have HA3 := hid eA3.symm
    have HU2 := hid hr2
    obtain ⟨k0, ek0⟩ : ∃ x, x = U2 / V1 := ⟨_, rfl⟩
    obtain ⟨k2, ek2⟩ : ∃ x, x = U2 % V1 := ⟨_, rfl⟩
    have hk0 : k0 * V1 + k2 = U2 := by rw [ek0, ek2, Nat.mul_comm]; exact Nat.div_add_mod U2 V1
    obtain ⟨K1, eK1⟩ : ∃ x, x = k0 * V1 % 18446744073709551616 := ⟨_, rfl⟩
    have hK1 : K1 < 18446744073709551616 := by rw [eK1]; exact Nat.mod_lt _ (by decide)
    have eK1' : K1 = k0 * V1 := by rw [eK1]; exact Nat.mod_eq_of_lt (by omega)
    have HK0 := hid ek0.symm
    have HK1 := hid eK1.symm
    have HK2 : Hid ((U2 + 18446744073709551616 - K1) % 18446744073709551616 = k2) := hid (by omega)
    have hun2' : U2 < V1 * 4294967296 + V0 := by rw [Nat.mul_comm, ← HV4.out]; exact hU2V
    have hun2 : U2 < 4294967296 * V1 + V0 := by rw [← HV4.out]; exact hU2V
    have hst2 := half_start v1 v2 v3 l0 hun2
    rw [← ek0, ← ek2] at hst2
    have HST2 := hid hst2
    have HQ1 := hid eQ1
    have HEU2 := hid eU2
    clear eQ1 eU2 hr2 eA1 eA2 eA3 ek0 ek2 hk0 eK1 eK1' hst2 hun2' hU2V
    go_upto_block 2 with (first | ((with_reducible apply mulNP (Y := 4294967296)); exact rfl; exact rfl; exact rfl; rw [HA1.out]; (try simp only [Act.put, List.setIfInBounds_toArray, List.set_cons_zero, List.set_cons_succ])) | ((with_reducible apply mulNP); exact rfl; exact rfl; exact rfl; (first | rw [HA3.out] | rw [HK1.out]); (try simp only [Act.put, List.setIfInBounds_toArray, List.set_cons_zero, List.set_cons_succ])) | ((with_reducible apply addNP); exact rfl; exact rfl; exact rfl; rw [HA2.out]; (try simp only [Act.put, List.setIfInBounds_toArray, List.set_cons_zero, List.set_cons_succ])) | ((with_reducible apply quoNP); exact rfl; exact rfl; exact rfl; exact hU2; exact hV1p; rw [HK0.out]; (try simp only [Act.put, List.setIfInBounds_toArray, List.set_cons_zero, List.set_cons_succ])) | ((with_reducible apply subNP); exact rfl; exact rfl; exact rfl; (first | exact hA3 | exact hK1); (first | rw [HU2.out] | rw [HK2.out]); (try simp only [Act.put, List.setIfInBounds_toArray, List.set_cons_zero, List.set_cons_succ])))
    go_cut [18] (fun qv wc2 => qv = .int .u64 ((hq U2 (4294967296 * V1 + V0) L0 : Nat) : Int) ∧ wc2 = wc)
    case first =>
      go_wp2
      go_loop [16, 18] (fun rv qv => ∃ q r : Nat, qv = .int .u64 (q : Nat) ∧ rv = .int .u64 (r : Nat) ∧ Half U2 V1 V0 L0 q r) (fun _ qv => (intOf qv).toNat)
      case atStart => exact ⟨_, _, rfl, rfl, HST2.out⟩
      case round =>
        obtain ⟨q, r, rfl, rfl, hh⟩ := hrel
        have hr := hh.lt
        have hql := hh.le
        obtain ⟨q', eq'⟩ : ∃ q', q' = q - 1 := ⟨_, rfl⟩
        obtain ⟨r', er'⟩ : ∃ r', r' = r + V1 := ⟨_, rfl⟩
        have HH := hid hh
        have HEQ := hid eq'
        have HER := hid er'
        have HR' : Hid ((r + V1) % 18446744073709551616 = r') := hid (by omega)
        by_cases hqb : 4294967296 ≤ q
        · have hc : 4294967296 ≤ q ∨ 4294967296 * r + L0 < q * V0 := .inl hqb
          have b3 : IsP (4294967296 ≤ q) true := IsP.yes hqb
          have hmore := half_more HH.out hun2 l0 hV1p hc
          have hq1 := hmore.1
          have HQ' : Hid ((q + 18446744073709551616 - 1) % 18446744073709551616 = q') := hid (by omega)
          have hmeas : q' < q := by omega
          by_cases hrb : 4294967296 ≤ r'
          · have hbr := half_break HH.out hun2 l0 hV1p v3 hc (by omega)
            have b4 : IsP (4294967296 ≤ r') true := IsP.yes hrb
            rw [← eq'] at hbr
            have HB := hid hbr
            clear hmore hc hrb hbr hh eq' er'
            go_wp2_with (first | ((with_reducible apply geqBP (Y := 4294967296)); exact rfl; exact rfl; exact rfl; (with_reducible assumption); (try simp only [Act.put, List.setIfInBounds_toArray, List.set_cons_zero, List.set_cons_succ])) | ((with_reducible apply gtrBP); exact rfl; exact rfl; exact rfl; (with_reducible assumption); (try simp only [Act.put, List.setIfInBounds_toArray, List.set_cons_zero, List.set_cons_succ])) | ((with_reducible apply mulNP (X := 4294967296)); exact rfl; exact rfl; exact rfl; rw [HRR.out]; (try simp only [Act.put, List.setIfInBounds_toArray, List.set_cons_zero, List.set_cons_succ])) | ((with_reducible apply mulNP); exact rfl; exact rfl; exact rfl; rw [HPV.out]; (try simp only [Act.put, List.setIfInBounds_toArray, List.set_cons_zero, List.set_cons_succ])) | ((with_reducible apply subNP (Y := 1)); exact rfl; exact rfl; exact rfl; decide; rw [HQ'.out]; (try simp only [Act.put, List.setIfInBounds_toArray, List.set_cons_zero, List.set_cons_succ])) | ((with_reducible apply addNP); exact rfl; exact rfl; exact rfl; (first | rw [HT.out] | rw [HR'.out]); (try simp only [Act.put, List.setIfInBounds_toArray, List.set_cons_zero, List.set_cons_succ])))
            go_meet
            case rel => exact ⟨by rw [HB.out], rfl⟩
          · have hnx := half_next HH.out hun2 l0 hV1p hc (by omega)
            have b4 : IsP (4294967296 ≤ r') false := IsP.no hrb
            rw [← eq', ← er'] at hnx
            have HB := hid hnx
            clear hmore hc hrb hnx hh eq' er'
            go_wp2_with (first | ((with_reducible apply geqBP (Y := 4294967296)); exact rfl; exact rfl; exact rfl; (with_reducible assumption); (try simp only [Act.put, List.setIfInBounds_toArray, List.set_cons_zero, List.set_cons_succ])) | ((with_reducible apply gtrBP); exact rfl; exact rfl; exact rfl; (with_reducible assumption); (try simp only [Act.put, List.setIfInBounds_toArray, List.set_cons_zero, List.set_cons_succ])) | ((with_reducible apply mulNP (X := 4294967296)); exact rfl; exact rfl; exact rfl; rw [HRR.out]; (try simp only [Act.put, List.setIfInBounds_toArray, List.set_cons_zero, List.set_cons_succ])) | ((with_reducible apply mulNP); exact rfl; exact rfl; exact rfl; rw [HPV.out]; (try simp only [Act.put, List.setIfInBounds_toArray, List.set_cons_zero, List.set_cons_succ])) | ((with_reducible apply subNP (Y := 1)); exact rfl; exact rfl; exact rfl; decide; rw [HQ'.out]; (try simp only [Act.put, List.setIfInBounds_toArray, List.set_cons_zero, List.set_cons_succ])) | ((with_reducible apply addNP); exact rfl; exact rfl; exact rfl; (first | rw [HT.out] | rw [HR'.out]); (try simp only [Act.put, List.setIfInBounds_toArray, List.set_cons_zero, List.set_cons_succ])))
            go_round
            case rel => exact ⟨q', r', rfl, rfl, HB.out⟩
            case measure => simp [intOf]; omega
        · have b3 : IsP (4294967296 ≤ q) false := IsP.no hqb
          have hpv : q * V0 ≤ 4294967295 * 4294967295 := Nat.mul_le_mul (by omega) (by omega)
          obtain ⟨PV, ePV⟩ : ∃ x, x = q * V0 := ⟨_, rfl⟩
          have HPV : Hid (q * V0 % 18446744073709551616 = PV) := hid (by rw [ePV]; exact Nat.mod_eq_of_lt (by omega))
          obtain ⟨RR, eRR⟩ : ∃ x, x = 4294967296 * r := ⟨_, rfl⟩
          have HRR : Hid (4294967296 * r % 18446744073709551616 = RR) := hid (by omega)
          obtain ⟨T, eT⟩ : ∃ x, x = RR + L0 := ⟨_, rfl⟩
          have HT : Hid ((RR + L0) % 18446744073709551616 = T) := hid (by omega)
          by_cases hg : T < PV
          · have hc : 4294967296 ≤ q ∨ 4294967296 * r + L0 < q * V0 := .inr (by omega)
            have b5 : IsP (T < PV) true := IsP.yes hg
            clear hpv ePV eRR eT hqb hg
            have hmore := half_more HH.out hun2 l0 hV1p hc
            have hq1 := hmore.1
            have HQ' : Hid ((q + 18446744073709551616 - 1) % 18446744073709551616 = q') := hid (by omega)
            have hmeas : q' < q := by omega
            by_cases hrb : 4294967296 ≤ r'
            · have hbr := half_break HH.out hun2 l0 hV1p v3 hc (by omega)
              have b4 : IsP (4294967296 ≤ r') true := IsP.yes hrb
              rw [← eq'] at hbr
              have HB := hid hbr
              clear hmore hc hrb hbr hh eq' er'
              go_wp2_with (first | ((with_reducible apply geqBP (Y := 4294967296)); exact rfl; exact rfl; exact rfl; (with_reducible assumption); (try simp only [Act.put, List.setIfInBounds_toArray, List.set_cons_zero, List.set_cons_succ])) | ((with_reducible apply gtrBP); exact rfl; exact rfl; exact rfl; (with_reducible assumption); (try simp only [Act.put, List.setIfInBounds_toArray, List.set_cons_zero, List.set_cons_succ])) | ((with_reducible apply mulNP (X := 4294967296)); exact rfl; exact rfl; exact rfl; rw [HRR.out]; (try simp only [Act.put, List.setIfInBounds_toArray, List.set_cons_zero, List.set_cons_succ])) | ((with_reducible apply mulNP); exact rfl; exact rfl; exact rfl; rw [HPV.out]; (try simp only [Act.put, List.setIfInBounds_toArray, List.set_cons_zero, List.set_cons_succ])) | ((with_reducible apply subNP (Y := 1)); exact rfl; exact rfl; exact rfl; decide; rw [HQ'.out]; (try simp only [Act.put, List.setIfInBounds_toArray, List.set_cons_zero, List.set_cons_succ])) | ((with_reducible apply addNP); exact rfl; exact rfl; exact rfl; (first | rw [HT.out] | rw [HR'.out]); (try simp only [Act.put, List.setIfInBounds_toArray, List.set_cons_zero, List.set_cons_succ])))
              go_meet
              case rel => exact ⟨by rw [HB.out], rfl⟩
            · have hnx := half_next HH.out hun2 l0 hV1p hc (by omega)
              have b4 : IsP (4294967296 ≤ r') false := IsP.no hrb
              rw [← eq', ← er'] at hnx
              have HB := hid hnx
              clear hmore hc hrb hnx hh eq' er'
              go_wp2_with (first | ((with_reducible apply geqBP (Y := 4294967296)); exact rfl; exact rfl; exact rfl; (with_reducible assumption); (try simp only [Act.put, List.setIfInBounds_toArray, List.set_cons_zero, List.set_cons_succ])) | ((with_reducible apply gtrBP); exact rfl; exact rfl; exact rfl; (with_reducible assumption); (try simp only [Act.put, List.setIfInBounds_toArray, List.set_cons_zero, List.set_cons_succ])) | ((with_reducible apply mulNP (X := 4294967296)); exact rfl; exact rfl; exact rfl; rw [HRR.out]; (try simp only [Act.put, List.setIfInBounds_toArray, List.set_cons_zero, List.set_cons_succ])) | ((with_reducible apply mulNP); exact rfl; exact rfl; exact rfl; rw [HPV.out]; (try simp only [Act.put, List.setIfInBounds_toArray, List.set_cons_zero, List.set_cons_succ])) | ((with_reducible apply subNP (Y := 1)); exact rfl; exact rfl; exact rfl; decide; rw [HQ'.out]; (try simp only [Act.put, List.setIfInBounds_toArray, List.set_cons_zero, List.set_cons_succ])) | ((with_reducible apply addNP); exact rfl; exact rfl; exact rfl; (first | rw [HT.out] | rw [HR'.out]); (try simp only [Act.put, List.setIfInBounds_toArray, List.set_cons_zero, List.set_cons_succ])))
              go_round
              case rel => exact ⟨q', r', rfl, rfl, HB.out⟩
              case measure => simp [intOf]; omega
          · have hst := half_stop HH.out hV1p (show q * V0 ≤ 4294967296 * r + L0 by omega)
            have b5 : IsP (T < PV) false := IsP.no hg
            have HB := hid hst
            clear hst hpv ePV eRR eT hqb hg hh eq' er'
            go_wp2_with (first | ((with_reducible apply geqBP (Y := 4294967296)); exact rfl; exact rfl; exact rfl; (with_reducible assumption); (try simp only [Act.put, List.setIfInBounds_toArray, List.set_cons_zero, List.set_cons_succ])) | ((with_reducible apply gtrBP); exact rfl; exact rfl; exact rfl; (with_reducible assumption); (try simp only [Act.put, List.setIfInBounds_toArray, List.set_cons_zero, List.set_cons_succ])) | ((with_reducible apply mulNP (X := 4294967296)); exact rfl; exact rfl; exact rfl; rw [HRR.out]; (try simp only [Act.put, List.setIfInBounds_toArray, List.set_cons_zero, List.set_cons_succ])) | ((with_reducible apply mulNP); exact rfl; exact rfl; exact rfl; rw [HPV.out]; (try simp only [Act.put, List.setIfInBounds_toArray, List.set_cons_zero, List.set_cons_succ])) | ((with_reducible apply subNP (Y := 1)); exact rfl; exact rfl; exact rfl; decide; rw [HQ'.out]; (try simp only [Act.put, List.setIfInBounds_toArray, List.set_cons_zero, List.set_cons_succ])) | ((with_reducible apply addNP); exact rfl; exact rfl; exact rfl; (first | rw [HT.out] | rw [HR'.out]); (try simp only [Act.put, List.setIfInBounds_toArray, List.set_cons_zero, List.set_cons_succ])))
            go_meet
            case rel => exact ⟨by rw [HB.out], rfl⟩
    case rest =>
      obtain ⟨rfl, rfl⟩ := hcut
      have hVV : 4294967296 * V1 + V0 = V := HV4.out.symm
      rw [hVV]
      clear hVV
      have hbo := half_both (u := U) (n1 := L1) (n0 := L0) hVp
      rw [← HEU2.out, ← HQ1.out] at hbo
      obtain ⟨Q0, eQ0⟩ : ∃ x, x = hq U2 V L0 := ⟨_, rfl⟩
      have hr3 := half_rest (n1 := L0) (u := U2) p4 hVp
      rw [← eQ0] at hbo hr3 ⊢
      obtain ⟨hb1, hb2⟩ := hbo
      have hN : 4294967296 * (4294967296 * U + L1) + L0 = (18446744073709551616 * hi + lo) * 2 ^ s := by rw [← HN.out, HL2.out]; omega
      rw [hN, HEV.out, Nat.mul_div_mul_right _ _ (Nat.two_pow_pos s)] at hb1
      rw [hN] at hb2
      rw [hb2, HEV.out, Nat.mul_mod_mul_right, Nat.mul_comm 4294967296 U2] at hr3
      obtain ⟨qq, eqq⟩ : ∃ x, x = (18446744073709551616 * hi + lo) / y := ⟨_, rfl⟩
      obtain ⟨rr, err⟩ : ∃ x, x = (18446744073709551616 * hi + lo) % y := ⟨_, rfl⟩
      have hqq : qq < 18446744073709551616 := by rw [eqq, Nat.div_lt_iff_lt_mul (by omega)]; omega
      rw [← eqq] at hb1
      rw [← err] at hr3
      have Hqq := hid eqq
      have Hrr := hid err
      obtain ⟨B1, eB1⟩ : ∃ x, x = Q1 * 4294967296 % 18446744073709551616 := ⟨_, rfl⟩
      have HB1 := hid eB1.symm
      have HB2 : Hid ((B1 + Q0) % 18446744073709551616 = qq) := hid (by omega)
      obtain ⟨C1, eC1⟩ : ∃ x, x = U2 * 4294967296 % 18446744073709551616 := ⟨_, rfl⟩
      rw [← eC1] at hr3
      obtain ⟨C2, eC2⟩ : ∃ x, x = (C1 + L0) % 18446744073709551616 := ⟨_, rfl⟩
      rw [← eC2] at hr3
      obtain ⟨C3, eC3⟩ : ∃ x, x = Q0 * (y * 2 ^ s) % 18446744073709551616 := ⟨_, rfl⟩
      rw [← eC3] at hr3
      rw [← HEV.out] at eC3
      have hC3 : C3 < 18446744073709551616 := by rw [eC3]; exact Nat.mod_lt _ (by decide)
      have HC1 := hid eC1.symm
      have HC2 := hid eC2.symm
      have HC3 := hid eC3.symm
      have HC4 := hid hr3
      have HC5 : Hid (rr * 2 ^ s / 2 ^ s = rr) := hid (Nat.mul_div_cancel _ (Nat.two_pow_pos s))
      clear hb1 hb2 hN hr3 eqq err eB1 eC1 eC2 eC3 eQ0
      go_wp2_with (first | ((with_reducible apply mulNP (Y := 4294967296)); exact rfl; exact rfl; exact rfl; (first | rw [HB1.out] | rw [HC1.out]); (try simp only [Act.put, List.setIfInBounds_toArray, List.set_cons_zero, List.set_cons_succ])) | ((with_reducible apply mulNP); exact rfl; exact rfl; exact rfl; rw [HC3.out]; (try simp only [Act.put, List.setIfInBounds_toArray, List.set_cons_zero, List.set_cons_succ])) | ((with_reducible apply addNP); exact rfl; exact rfl; exact rfl; (first | rw [HB2.out] | rw [HC2.out]); (try simp only [Act.put, List.setIfInBounds_toArray, List.set_cons_zero, List.set_cons_succ])) | ((with_reducible apply subNP); exact rfl; exact rfl; exact rfl; exact hC3; rw [HC4.out]; (try simp only [Act.put, List.setIfInBounds_toArray, List.set_cons_zero, List.set_cons_succ])) | ((with_reducible apply shrNP); exact rfl; exact rfl; exact rfl; exact hs64; rw [HC5.out]; (try simp only [Act.put, List.setIfInBounds_toArray, List.set_cons_zero, List.set_cons_succ])))
      go_ret2
      exact ⟨by rw [Hqq.out, Hrr.out]; rfl, Up.refl _⟩
theorem div64_any (hi lo y : Nat) (hy : y < 18446744073709551616) (hlo : lo < 18446744073709551616) (hlt : hi < y) (w : World) :
    Calls Try.prog 64 #[.int .u64 hi, .int .u64 lo, .int .u64 y] w fun e w' => e = .returned (.tuple #[.int .u64 (((18446744073709551616 * hi + lo) / y : Nat) : Int), .int .u64 (((18446744073709551616 * hi + lo) % y : Nat) : Int)]) ∧ Up w w' := by
  by_cases h : hi = 0
  · subst h
    rw [Nat.mul_zero, Nat.zero_add]
    exact div64_small lo y hlo (by omega) w
  · exact div64_great hi lo y hy hlo hlt (by omega) w
end Go.Proofs.Ytlkolfnklbldcaa
