import Derived.Test.YtjoenldfjggciaaGreatDoorPe
import Derived.OwnWalk
import Derived.Laws.CopyOwn
namespace Go.Proofs.YtjoenldfjggciaaGreatDoor
open Go Go.RowKit
set_option maxRecDepth 100000
theorem splus_any {a b : Int} {w : World} (ha : InR a) (hb' : InR b) (hab : InR (a + b)) :
    Calls Tryz.prog 79 #[wideV (enc a), wideV (enc b)] w fun r w' => r = .returned (wideV (enc (a + b))) ∧ Up w w' := by
  have HA := hid (fun w => add_z ha hb' w)
  rw [opt_yes hab] at HA
  clear ha hb' hab
  unfold wideV at *
  go_enter Tryz.func79, Tryz.ntmps79
  go_wp2_with (first | ((with_reducible apply ld_rowP undW infoW); exact rfl; exact rfl; exact gRow) | ((with_reducible apply st_rowP infoW); exact rfl; exact rfl; exact gRow) | ((with_reducible apply st_rowZ infoW); exact rfl; exact rfl; exact gRow) | (go_at_call 114; (with_reducible refine (HA.out _).mono ?_); rintro e w1 ⟨rfl, hu⟩; have hs1 := hu.size; simp at hs1))
  exact bodyPost_ret (res1 rfl undW infoW _ _ rfl gRow) rfl ⟨rfl, gUp⟩
theorem sless_any {a b : Int} {w : World} (ha : InR a) (hb' : InR b) (hab : InR (a - b)) :
    Calls Tryz.prog 84 #[wideV (enc a), wideV (enc b)] w fun r w' => r = .returned (wideV (enc (a - b))) ∧ Up w w' := by
  have HA := hid (fun w => sub_z ha hb' w)
  rw [opt_yes hab] at HA
  clear ha hb' hab
  unfold wideV at *
  go_enter Tryz.func84, Tryz.ntmps84
  go_wp2_with (first | ((with_reducible apply ld_rowP undW infoW); exact rfl; exact rfl; exact gRow) | ((with_reducible apply st_rowP infoW); exact rfl; exact rfl; exact gRow) | ((with_reducible apply st_rowZ infoW); exact rfl; exact rfl; exact gRow) | (go_at_call 120; (with_reducible refine (HA.out _).mono ?_); rintro e w1 ⟨rfl, hu⟩; have hs1 := hu.size; simp at hs1))
  exact bodyPost_ret (res1 rfl undW infoW _ _ rfl gRow) rfl ⟨rfl, gUp⟩
theorem stimes_any {a b : Int} {w : World} (ha : InR a) (hb' : InR b) (hab : InR (a * b)) :
    Calls Tryz.prog 80 #[wideV (enc a), wideV (enc b)] w fun r w' => r = .returned (wideV (enc (a * b))) ∧ Up w w' := by
  have HA := hid (fun w => mul_z ha hb' w)
  rw [opt_yes hab] at HA
  clear ha hb' hab
  unfold wideV at *
  go_enter Tryz.func80, Tryz.ntmps80
  go_wp2_with (first | ((with_reducible apply ld_rowP undW infoW); exact rfl; exact rfl; exact gRow) | ((with_reducible apply st_rowP infoW); exact rfl; exact rfl; exact gRow) | ((with_reducible apply st_rowZ infoW); exact rfl; exact rfl; exact gRow) | (go_at_call 115; (with_reducible refine (HA.out _).mono ?_); rintro e w1 ⟨rfl, hu⟩; have hs1 := hu.size; simp at hs1))
  exact bodyPost_ret (res1 rfl undW infoW _ _ rfl gRow) rfl ⟨rfl, gUp⟩
theorem samount_any {a : Int} {w : World} (ha : a.natAbs < bp 14) :
    Calls Tryz.prog 83 #[wideV (enc a)] w fun r w' => r = .returned (wideV (enc (a.natAbs : Int))) ∧ Up w w' := by
  have hI : InR a := inR_bp (by omega) ha
  have h0 : InR 0 := inR_bp (k := 1) (by omega) (bp_pos 1)
  have hI2 : InR (0 - a) := inR_bp (k := 14) (by omega) (by rw [Int.zero_sub, Int.natAbs_neg]; exact ha)
  have HS := hid (fun w => sign_z hI w)
  have HL := hid (fun w => sless_any (w := w) h0 hI hI2)
  have e0 : cells 16 (limb (enc 0)) = #[.int .u64 0, .int .u64 0, .int .u64 0, .int .u64 0, .int .u64 0, .int .u64 0, .int .u64 0, .int .u64 0, .int .u64 0, .int .u64 0, .int .u64 0, .int .u64 0, .int .u64 0, .int .u64 0, .int .u64 0, .int .u64 0] := by rw [← zero_limb, zeros16]
  unfold wideV at *
  rw [e0, Int.zero_sub] at HL
  by_cases hn : a < 0
  · have ds : decide (sgn a < 0) = true := by unfold sgn; rw [if_pos hn]; rfl
    have e : ((a.natAbs : Nat) : Int) = -a := by omega
    rw [e]
    clear ha hI hI2 h0 e hn e0
    go_enter Tryz.func83, Tryz.ntmps83
    go_wp2_with (first
      | ((with_reducible apply ld_rowP undW infoW); exact rfl; exact rfl; exact gRow)
      | ((with_reducible apply st_rowP infoW); exact rfl; exact rfl; exact gRow) | ((with_reducible apply st_rowZ infoW); exact rfl; exact rfl; exact gRow)
      | (go_at_call 58; (with_reducible refine (HS.out _).mono ?_); rintro e w1 ⟨rfl, hu1⟩; have hs1 := hu1.size; (try simp at hs1))
      | (go_at_call 84; (with_reducible refine (HL.out _).mono ?_); rintro e w2 ⟨rfl, hu2⟩; have hs2 := hu2.size))
    exact bodyPost_ret (res1 rfl undW infoW _ _ rfl gRow) rfl ⟨rfl, gUp⟩
  · have ds : decide (sgn a < 0) = false := by unfold sgn; rw [if_neg hn]; split <;> rfl
    have e : ((a.natAbs : Nat) : Int) = a := by omega
    rw [e]
    clear ha hI hI2 h0 e hn HL e0
    go_enter Tryz.func83, Tryz.ntmps83
    go_wp2_with (first
      | ((with_reducible apply ld_rowP undW infoW); exact rfl; exact rfl; exact gRow)
      | ((with_reducible apply st_rowP infoW); exact rfl; exact rfl; exact gRow) | ((with_reducible apply st_rowZ infoW); exact rfl; exact rfl; exact gRow)
      | (go_at_call 58; (with_reducible refine (HS.out _).mono ?_); rintro e w1 ⟨rfl, hu1⟩; have hs1 := hu1.size; (try simp at hs1)))
    exact bodyPost_ret (res1 rfl undW infoW _ _ rfl gRow) rfl ⟨rfl, gUp⟩
def vfit (x : Int) : Bool := decide (x.natAbs ≤ 72057594037927936)
theorem sfits_any {x : Int} (h : I64 x) (w : World) :
    Calls Tryz.prog 74 #[.int .i64 x] w fun r w' => r = .returned (.bool (vfit x)) ∧ Up w w' := by
  have HA := hid (fun w => fx_amount x h.1 h.2 w)
  by_cases hb : x.natAbs < 9223372036854775808
  · rw [i64V_yes (by omega)] at HA
    have e : vfit x = decide ((x.natAbs : Int) ≤ 72057594037927936) := by unfold vfit; rw [decide_eq_decide]; omega
    rw [e]
    generalize ((x.natAbs : Nat) : Int) = a at *
    clear e hb h
    go_enter Tryz.func74, Tryz.ntmps74
    go_wp2_with (first | (go_at_call 113; (with_reducible refine (HA.out _).mono ?_); rintro e w1 ⟨rfl, hu1⟩))
    go_ret
    exact ⟨rfl, hu1⟩
  · rw [i64V_no (by omega)] at HA
    have e : vfit x = false := by unfold vfit; exact decide_eq_false (by omega)
    rw [e]
    clear e hb h
    go_enter Tryz.func74, Tryz.ntmps74
    go_wp2_with (first | (go_at_call 113; (with_reducible refine (HA.out _).mono ?_); rintro e w1 ⟨rfl, hu1⟩))
    go_ret
    exact ⟨rfl, hu1⟩
def solveB : ByteArray := ⟨#[115, 111, 108, 118, 101]⟩
def ErrsP (B : ByteArray) (w : World) (u : Value) (e : Int) : Prop := (e = 0 ∧ u = .nilIface) ∨ (e ≠ 0 ∧ ∃ t x, u = .iface t x ∧ IsEr w u (.flt B (.num e)))
theorem ErrsP.up {B : ByteArray} {w w' : World} (hu : Up w w') {u : Value} {e : Int} (h : ErrsP B w u e) : ErrsP B w' u e := by
  rcases h with h | ⟨h1, t, x, h2, h3⟩
  · exact .inl h
  · exact .inr ⟨h1, t, x, h2, h3.up hu⟩
theorem swrong_any (n : Int) (h0 : n ≠ 0) (w : World) :
    Calls Tryz.prog 75 #[.iface 101 (.int .i64 n)] w fun r w' => ∃ u, r = .returned u ∧ Up w w' ∧ ErrsP solveB w' u n := by
  have HW := hid (fun w => wrap_any (op := { data := #[115, 111, 108, 118, 101] }) (v := .iface 101 (.int .i64 n)) (e := .num n) (w := w) rfl)
  go_enter Tryz.func75, Tryz.ntmps75
  go_wp2_with (first | (go_at_call 97; (with_reducible refine (HW.out _).mono ?_); rintro r w1 ⟨u1, rfl, hu1, h1⟩))
  go_ret
  obtain ⟨t, u, rfl⟩ := h1.iface
  exact ⟨_, rfl, hu1, .inr ⟨h0, t, u, rfl, h1⟩⟩
def Lv (w : World) (v : Value) (Ls : List (List Int)) : Prop :=
  ∃ p cap, v = .slice p Ls.length cap ∧ ∀ i, i < Ls.length → ∃ a s, p = some a ∧ w.cell? (a.add i) = some s ∧ Vw w s (Ls.getD i [])
def ftC (N : Int) (l : List Int) (Ls : List (List Int)) : Int :=
  if rt N l = true ∧ (∀ i, i < Ls.length → ((Ls.getD i []).length : Int) = N) then (if ∀ i, i < Ls.length → (Ls.getD i []).all vfit = true then 0 else 21) else 23
set_option maxHeartbeats 8000000 in
theorem fitting_any {v vl : Value} {N : Int} {l : List Int} {Ls : List (List Int)} {w : World} (hm : Sm w v N l) (hL : Lv w vl Ls) (hI : ∀ i, In64 (Ls.getD i [])) (hs : ∀ i, (Ls.getD i []).length ≤ 1000) (h9 : Ls.length ≤ 9) :
    Calls Tryz.prog 81 #[v, vl] w fun r w' => ∃ u, r = .returned u ∧ Up w w' ∧ ErrsP solveB w' u (ftC N l Ls) := by
  have HR := hid (fun w' (hu : Up w w') => sright_any (hm.up hu))
  have HW23 := hid (fun w => swrong_any 23 (by decide) w)
  have HW21 := hid (fun w => swrong_any 21 (by decide) w)
  obtain ⟨s, rfl, ⟨p, cap, rfl, -, -⟩, -, -, -⟩ := hm
  obtain ⟨pL, cL, rfl, hE⟩ := hL
  obtain ⟨W0, hW0⟩ : ∃ W0, w.alloc (.cells #[.int .i64 N, .slice p l.length cap] 24) = W0 := ⟨_, rfl⟩
  have hB : Blk W0 w.heap.size 24 #[.int .i64 N, .slice p l.length cap] := by rw [← hW0]; exact Blk.new _ _ rfl
  have hU : Up w W0 := by rw [← hW0]; exact Up.alloc _ _
  cases hR : rt N l with
  | false =>
    have e : ftC N l Ls = 23 := by unfold ftC; rw [if_neg (by rw [hR]; simp)]
    rw [e]
    rw [hR] at HR
    clear e hR hE hI hs h9
    go_enter Tryz.func81, Tryz.ntmps81
    go_wp2_with (first
      | ((with_reducible apply ldM_P); exact rfl; exact rfl; exact hB; exact rfl)
      | (go_at_call 52; (with_reducible refine (HR.out _ hU).mono ?_); rintro r w1 ⟨rfl, hu1⟩)
      | (go_at_call 75; (with_reducible refine (HW23.out _).mono ?_); rintro r w2 ⟨u2, rfl, hu2, h2⟩))
    go_ret
    exact ⟨_, rfl, (hU.trans hu1).trans hu2, h2⟩
  | true =>
    rw [hR] at HR
    have HE := hid (fun w' (hu : Up w w') i (hi : i < Ls.length) => show ∃ a s, pL = some a ∧ w'.cell? (a.add i) = some s ∧ Vw w' s (Ls.getD i []) from by obtain ⟨a, s, h1, h2, h3⟩ := hE i hi; exact ⟨a, s, h1, hu.cellEq h2, h3.up hu⟩)
    have HI := hid hI
    have HS := hid hs
    have HC : Hid (ftC N l Ls = if (∀ i, i < Ls.length → ((Ls.getD i []).length : Int) = N) then (if ∀ i, i < Ls.length → (Ls.getD i []).all vfit = true then 0 else 21) else 23) := hid (by unfold ftC; simp only [hR, true_and])
    have hn9 : Ls.length < 1000000 := by omega
    clear hE hI hs hR
    obtain ⟨C, hC⟩ : ∃ C, ftC N l Ls = C := ⟨_, rfl⟩
    rw [hC] at HC ⊢
    clear hC
    go_enter Tryz.func81, Tryz.ntmps81
    go_wp2_with (first
      | ((with_reducible apply ldM_P); exact rfl; exact rfl; exact hB; exact rfl)
      | (go_at_call 52; (with_reducible refine (HR.out _ hU).mono ?_); rintro r w1 ⟨rfl, hu1⟩; replace hB := hB.up hu1; replace hU := hU.trans hu1))
    clear hu1 hW0
    go_loopg [18] Ls.length (fun g ti wr => ∃ i : Nat, i ≤ Ls.length ∧ Ls.length - i ≤ g ∧ ti = .int .i64 (i : Nat) ∧ (∀ j, j < i → ((Ls.getD j []).length : Int) = N) ∧ Up w1 wr)
    case atStart => exact ⟨0, Nat.zero_le _, by omega, rfl, fun j hj => absurd hj (Nat.not_lt_zero _), Up.refl _⟩
    case round =>
      obtain ⟨i, hi, hig, rfl, hz, hu⟩ := hrel
      have HZ := hid hz
      clear hz
      have hc0 := (hB.up hu).cell 0 rfl
      by_cases hlt : i < Ls.length
      · obtain ⟨ad, s, rfl, hcx, hV⟩ := HE.out _ (hU.trans hu) i hlt
        obtain ⟨ps, cs, rfl, -, -⟩ := hV
        have e1 : IntKind.i64.wrap ((i : Int) + 1) = (i : Int) + 1 := IntWalk.i64_in _ (by omega)
        obtain ⟨n, hn⟩ : ∃ n, (Ls.getD i []).length = n := ⟨_, rfl⟩
        have HN := hid hn
        rw [hn] at hcx
        clear hn
        by_cases hne : (n : Int) = N
        · have d1 : ((n : Int) != N) = false := by rw [hne]; simp
          have HNe := hid hne
          clear hne
          go_wp2_with fail
          go_roundg (Ls.length - (i + 1))
          case measure => omega
          case rel => exact ⟨i + 1, hlt, Nat.le_refl _, rfl, fun j hj => by
            rcases Nat.lt_succ_iff_lt_or_eq.1 hj with h | h
            · exact HZ.out j h
            · rw [h, HN.out]; exact HNe.out, hu⟩
        · have d1 : ((n : Int) != N) = true := by simpa using hne
          have HC2 : Hid (C = 23) := hid (by rw [HC.out]; exact if_neg fun h => hne (by have := h i hlt; rw [HN.out] at this; exact this))
          clear hne
          go_wp2_with (first
            | (go_at_call 75; (with_reducible refine (HW23.out _).mono ?_); rintro r w2 ⟨u2, rfl, hu2, h2⟩))
          go_ret
          exact ⟨_, rfl, (hU.trans hu).trans hu2, by rw [HC2.out]; exact h2⟩
      · obtain rfl : i = Ls.length := by omega
        have HC2 : Hid (C = if ∀ i, i < Ls.length → (Ls.getD i []).all vfit = true then 0 else 21) := hid (by rw [HC.out]; exact if_pos HZ.out)
        go_wp2_with fail
        obtain ⟨wO, hwO⟩ : ∃ y, wr = y := ⟨_, rfl⟩
        rw [hwO] at hu hc0 ⊢
        clear hwO
        go_loopg [32] Ls.length (fun g ti wr => ∃ i : Nat, i ≤ Ls.length ∧ Ls.length - i ≤ g ∧ ti = .int .i64 (i : Nat) ∧ (∀ j, j < i → (Ls.getD j []).all vfit = true) ∧ Up wO wr)
        case atStart => exact ⟨0, Nat.zero_le _, by omega, rfl, fun j hj => absurd hj (Nat.not_lt_zero _), Up.refl _⟩
        case round =>
          clear hc0
          obtain ⟨i, hi, hig, rfl, hz, hui⟩ := hrel
          have HY := hid hz
          clear hz
          by_cases hlt : i < Ls.length
          · obtain ⟨ad, s, rfl, hcx, hV⟩ := HE.out _ ((hU.trans hu).trans hui) i hlt
            have HV := hid hV
            obtain ⟨ps, cs, rfl, -, -⟩ := hV
            have e1 : IntKind.i64.wrap ((i : Int) + 1) = (i : Int) + 1 := IntWalk.i64_in _ (by omega)
            have HIi := hid (HI.out i)
            have hLi := HS.out i
            obtain ⟨x, hx⟩ : ∃ x, Ls.getD i [] = x := ⟨_, rfl⟩
            have HX := hid hx
            rw [hx] at hcx HV HIi hLi
            clear hx
            go_wp2_with fail
            obtain ⟨wI, hwI⟩ : ∃ y, wr = y := ⟨_, rfl⟩
            rw [hwI] at hui hcx HV ⊢
            clear hwI
            go_loopg [38] x.length (fun g tk wr => ∃ k : Nat, k ≤ x.length ∧ x.length - k ≤ g ∧ tk = .int .i64 (k : Nat) ∧ (∀ j, j < k → vfit (zth x j) = true) ∧ Up wI wr)
            case atStart => exact ⟨0, Nat.zero_le _, by omega, rfl, fun j hj => absurd hj (Nat.not_lt_zero _), Up.refl _⟩
            case round =>
              clear hcx
              obtain ⟨k, hk, hkg, rfl, hy, huk⟩ := hrel
              have HK := hid hy
              clear hy
              by_cases hkl : k < x.length
              · obtain ⟨q', cq', xq, _, hcq⟩ := HV.out
                injection xq with y1 y2 y3
                subst y1 y3
                obtain ⟨a2, rfl, hck⟩ := hcq k hkl
                replace hck := huk.cellEq hck
                have HF := hid (fun w => sfits_any (HIi.out k hkl) w)
                have e2 : IntKind.i64.wrap ((k : Int) + 1) = (k : Int) + 1 := IntWalk.i64_in _ (by omega)
                clear hcq y2
                obtain ⟨z, hz⟩ : ∃ z, zth x k = z := ⟨_, rfl⟩
                rw [hz] at hck HF
                have HZz := hid hz
                clear hz
                cases hf : vfit z with
                | true =>
                  rw [hf] at HF
                  have Hf := hid hf
                  clear hf
                  go_wp2_with (first
                    | (go_at_call 74; (with_reducible refine (HF.out _).mono ?_); rintro r w2 ⟨rfl, hu2⟩))
                  go_roundg (x.length - (k + 1))
                  case measure => omega
                  case rel => exact ⟨k + 1, hkl, Nat.le_refl _, rfl, fun j hj => by
                    rcases Nat.lt_succ_iff_lt_or_eq.1 hj with h | h
                    · exact HK.out j h
                    · rw [h, HZz.out]; exact Hf.out, huk.trans hu2⟩
                | false =>
                  rw [hf] at HF
                  have HC3 : Hid (C = 21) := hid (by
                    rw [HC2.out]
                    refine if_neg fun h => ?_
                    have h1 := List.all_eq_true.1 (h i hlt) (zth x k) (by rw [HX.out, zth_get hkl]; exact List.getElem_mem _)
                    rw [HZz.out, hf] at h1
                    cases h1)
                  clear hf
                  go_wp2_with (first
                    | (go_at_call 74; (with_reducible refine (HF.out _).mono ?_); rintro r w2 ⟨rfl, hu2⟩)
                    | (go_at_call 75; (with_reducible refine (HW21.out _).mono ?_); rintro r w3 ⟨u3, rfl, hu3, h3⟩))
                  go_ret
                  exact ⟨_, rfl, ((((hU.trans hu).trans hui).trans huk).trans hu2).trans hu3, by rw [HC3.out]; exact h3⟩
              · obtain rfl : k = x.length := by omega
                have hall : x.all vfit = true := List.all_eq_true.2 fun y hy => by
                  obtain ⟨j, hj, rfl⟩ := List.mem_iff_getElem.1 hy
                  have := HK.out j hj
                  rw [zth_get hj] at this
                  exact this
                have HA := hid hall
                clear hall
                go_wp2_with fail
                go_roundg (Ls.length - (i + 1))
                case measure => omega
                case rel => exact ⟨i + 1, hlt, Nat.le_refl _, rfl, fun j hj => by
                  rcases Nat.lt_succ_iff_lt_or_eq.1 hj with h | h
                  · exact HY.out j h
                  · rw [h, HX.out]; exact HA.out, hui.trans huk⟩
          · obtain rfl : i = Ls.length := by omega
            have HC3 : Hid (C = 0) := hid (by rw [HC2.out]; exact if_pos HY.out)
            go_wp2_with fail
            go_ret
            exact ⟨_, rfl, (hU.trans hu).trans hui, .inl ⟨HC3.out, rfl⟩⟩
def slC (N : Int) (l v : List Int) : Int := if ftC N l [v] = 0 then (if dfV N l = true then 0 else 30) else ftC N l [v]
theorem lv_one {w : World} {v : Value} {l : List Int} (h : Vw w v l) : Lv (w.alloc (.cells #[v] 22)) (.slice (some ⟨w.heap.size, 0, none⟩) 1 1) [l] :=
  ⟨_, _, rfl, fun i hi => by
    obtain rfl : i = 0 := by simp at hi; omega
    exact ⟨_, v, rfl, (Blk.new _ _ rfl).cell 0 rfl, h.up (Up.alloc _ _)⟩⟩
set_option maxHeartbeats 8000000 in
theorem solvable_any {v xv : Value} {N : Int} {l x : List Int} {w : World} (hm : Sm w v N l) (hx : Vw w xv x) (hI : In64 x) (hs : x.length ≤ 1000) :
    Calls Tryz.prog 70 #[v, xv] w fun r w' => ∃ u, r = .returned u ∧ Up w w' ∧ ErrsP solveB w' u (slC N l x) := by
  have HF := hid (fun w' (hu : Up w w') => fitting_any (hm.up (hu.trans (Up.alloc w' (.cells #[xv] 22)))) (lv_one (hx.up hu)) (fun i => by rcases i with _ | i; exact hI; exact fun j hj => absurd hj (Nat.not_lt_zero _)) (fun i => by rcases i with _ | i; exact hs; exact Nat.zero_le _) (by simp))
  have HD := hid (fun w' (hu : Up w w') => definite_any (hm.up hu))
  have HW30 := hid (fun w => swrong_any 30 (by decide) w)
  obtain ⟨s, rfl, ⟨p, cap, rfl, -, -⟩, -, -, -⟩ := hm
  obtain ⟨px, cx, rfl, -, -⟩ := hx
  obtain ⟨W0, hW0⟩ : ∃ W0, w.alloc (.cells #[.int .i64 N, .slice p l.length cap] 24) = W0 := ⟨_, rfl⟩
  have hB : Blk W0 w.heap.size 24 #[.int .i64 N, .slice p l.length cap] := by rw [← hW0]; exact Blk.new _ _ rfl
  have hU : Up w W0 := by rw [← hW0]; exact Up.alloc _ _
  have HFW := hid (HF.out W0 hU)
  have hBa := hB.up (Up.alloc W0 (.cells #[.slice px x.length cx] 22))
  have hUa := hU.trans (Up.alloc W0 (.cells #[.slice px x.length cx] 22))
  obtain ⟨F, hF⟩ : ∃ F, ftC N l [x] = F := ⟨_, rfl⟩
  have hCe : slC N l x = if F = 0 then (if dfV N l = true then 0 else 30) else F := by unfold slC; rw [hF]
  have HC := hid hCe
  rw [hF] at HFW
  obtain ⟨C, hC⟩ : ∃ C, slC N l x = C := ⟨_, rfl⟩
  rw [hC] at HC ⊢
  clear hF hCe hC HF hI hs
  go_enter Tryz.func70, Tryz.ntmps70
  go_upto_region 2 with (first
    | ((with_reducible apply ldM_P); exact rfl; exact rfl; exact hB; exact rfl)
    | (go_at_call 81; (with_reducible refine HFW.out.mono ?_); rintro r w1 ⟨u1, rfl, hu1, h1⟩; have hB1 := hBa.up hu1; have hU1 := hUa.trans hu1))
  rcases h1 with ⟨h0, rfl⟩ | ⟨h0, t, y, rfl, hE⟩
  · have hc := HC.out
    rw [if_pos h0] at hc
    cases hd : dfV N l with
    | true =>
      rw [hd, if_pos rfl] at hc
      rw [hd] at HD
      have HC2 := hid hc
      clear hc hd h0
      go_wp2_with (first
        | ((with_reducible apply ldM_P); exact rfl; exact rfl; exact hB1; exact rfl)
        | (go_at_call 19; (with_reducible refine (HD.out _ hU1).mono ?_); rintro r w2 ⟨rfl, hu2⟩))
      go_ret
      exact ⟨_, rfl, hU1.trans hu2, .inl ⟨HC2.out, rfl⟩⟩
    | false =>
      rw [hd, if_neg (by decide)] at hc
      rw [hd] at HD
      have HC2 := hid hc
      clear hc hd h0
      go_wp2_with (first
        | ((with_reducible apply ldM_P); exact rfl; exact rfl; exact hB1; exact rfl)
        | (go_at_call 19; (with_reducible refine (HD.out _ hU1).mono ?_); rintro r w2 ⟨rfl, hu2⟩)
        | (go_at_call 75; (with_reducible refine (HW30.out _).mono ?_); rintro r w3 ⟨u3, rfl, hu3, h3⟩))
      go_ret
      exact ⟨_, rfl, (hU1.trans hu2).trans hu3, by rw [HC2.out]; exact h3⟩
  · have HC2 : Hid (C = F) := hid (by rw [HC.out]; exact if_neg h0)
    have H0 := hid h0
    clear h0
    go_wp2_with fail
    go_ret
    exact ⟨_, rfl, hU1, by rw [HC2.out]; exact .inr ⟨H0.out, t, y, rfl, hE⟩⟩
def Wx (w : World) (v : Value) (l : List Int) : Prop :=
  (l = [] ∧ ∃ p c, v = .slice p 0 c) ∨ ∃ g o cap C, v = .slice (some ⟨g, o, none⟩) l.length cap ∧ l.length ≤ cap ∧ Blk w g 33 C ∧ (C.toList.drop o).take (l.length * 16) = wcs l
theorem Wx.up {w w' : World} (hu : Up w w') {v : Value} {l : List Int} (h : Wx w v l) : Wx w' v l := by
  rcases h with h | ⟨g, o, cap, C, h1, h2, h3, h4⟩
  · exact .inl h
  · exact .inr ⟨g, o, cap, C, h1, h2, h3.up hu, h4⟩
theorem Wv.wx {w : World} {v : Value} {l : List Int} (h : Wv w v l) : Wx w v l := by
  rcases h with h | ⟨g, cap, C, h1, h2, h3, h4⟩
  · exact .inl h
  · exact .inr ⟨g, 0, cap, C, h1, h2, h3, by rw [List.drop_zero]; exact h4⟩
theorem OwnW.wx {w : World} {base : Nat} {v : Value} {l : List Int} (h : OwnW w base v l) : Wx w v l := h.wv.wx
theorem Wx.slice {w : World} {v : Value} {l : List Int} (h : Wx w v l) : ∃ p c, v = .slice p l.length c := by
  rcases h with ⟨rfl, p, c, rfl⟩ | ⟨g, o, cap, C, rfl, _⟩
  · exact ⟨p, c, rfl⟩
  · exact ⟨_, cap, rfl⟩
theorem Wx.open {w : World} {v : Value} {l : List Int} (h : Wx w v l) (h0 : 0 < l.length) :
    ∃ g o cap C, v = .slice (some ⟨g, o, none⟩) l.length cap ∧ l.length ≤ cap ∧ Blk w g 33 C ∧ (C.toList.drop o).take (l.length * 16) = wcs l := by
  rcases h with ⟨rfl, _⟩ | h
  · exact absurd h0 (by decide)
  · exact h
theorem wx_range {w : World} {g o : Nat} {C : Array Value} {l : List Int} (hB : Blk w g 33 C) (ht : (C.toList.drop o).take (l.length * 16) = wcs l) {i : Nat} (hi : i < l.length) : w.rangeAt g (o + i * 16) (wc (zth l i)) := by
  intro j v hv
  have hj : j < 16 := by have := (List.getElem?_eq_some_iff.1 hv).1; rw [wc_len] at this; exact this
  refine hB.cell _ ?_
  have h1 : ((C.toList.drop o).take (l.length * 16))[i * 16 + j]? = some v := by rw [ht, wcs_mid hi hj]; exact hv
  rw [List.getElem?_take_of_lt (by omega), List.getElem?_drop] at h1
  rw [← Array.getElem?_toList, Nat.add_assoc]
  exact h1
theorem wx_drop1 {w : World} {g o : Nat} {C : Array Value} {l : List Int} {n : Nat} (hB : Blk w g 33 C) (ht : (C.toList.drop o).take (l.length * 16) = wcs l) (hl : l.length = n + 1) : w.rangeAt g (o + 16) (wcs (l.drop 1)) := by
  intro j v hv
  have hj : j < n * 16 := by have := (List.getElem?_eq_some_iff.1 hv).1; rw [wcs_len, List.length_drop, hl] at this; omega
  refine hB.cell _ ?_
  rw [← wcs_drop (i := 1) (by omega), List.getElem?_drop, ← ht, List.getElem?_take_of_lt (by omega), List.getElem?_drop] at hv
  rw [← Array.getElem?_toList, Nat.add_assoc, ← Nat.one_mul 16]
  exact hv
theorem wx_tail {w : World} {g o n cap : Nat} {C : Array Value} {l : List Int} (hl : l.length = n + 1) (hc : n + 1 ≤ cap) (hB : Blk w g 33 C) (ht : (C.toList.drop o).take (l.length * 16) = wcs l) : Wx w (.slice (some ⟨g, o + 16, none⟩) n (cap - 1)) (l.drop 1) := by
  have hn : (l.drop 1).length = n := by rw [List.length_drop]; omega
  refine .inr ⟨g, o + 16, cap - 1, C, by rw [hn], by rw [hn]; omega, hB, ?_⟩
  rw [hn, ← wcs_drop (i := 1) (by omega), ← ht, Nat.one_mul, List.drop_take, hl, List.drop_drop, show (n + 1) * 16 - 16 = n * 16 by omega]
def Rx (w : World) (v : Value) (L : List (List Int)) : Prop :=
  (L = [] ∧ ∃ p c, v = .slice p 0 c) ∨ ∃ g o cap C, v = .slice (some ⟨g, o, none⟩) L.length cap ∧ L.length ≤ cap ∧ Blk w g 38 C ∧ ∀ i, i < L.length → ∃ s, C[o + i]? = some s ∧ Wx w s (L.getD i [])
theorem Rx.up {w w' : World} (hu : Up w w') {v : Value} {L : List (List Int)} (h : Rx w v L) : Rx w' v L := by
  rcases h with h | ⟨g, o, cap, C, h1, h2, h3, h4⟩
  · exact .inl h
  · exact .inr ⟨g, o, cap, C, h1, h2, h3.up hu, fun i hi => by obtain ⟨s, h5, h6⟩ := h4 i hi; exact ⟨s, h5, h6.up hu⟩⟩
theorem Rx.slice {w : World} {v : Value} {L : List (List Int)} (h : Rx w v L) : ∃ p c, v = .slice p L.length c := by
  rcases h with ⟨rfl, p, c, rfl⟩ | ⟨g, o, cap, C, rfl, _⟩
  · exact ⟨p, c, rfl⟩
  · exact ⟨_, cap, rfl⟩
theorem Rx.open {w : World} {v : Value} {L : List (List Int)} (h : Rx w v L) (h0 : 0 < L.length) :
    ∃ g o cap C, v = .slice (some ⟨g, o, none⟩) L.length cap ∧ L.length ≤ cap ∧ Blk w g 38 C ∧ ∀ i, i < L.length → ∃ s, C[o + i]? = some s ∧ Wx w s (L.getD i []) := by
  rcases h with ⟨rfl, _⟩ | h
  · exact absurd h0 (by decide)
  · exact h
def Wbx (w : World) (nb : Nat) (v : Value) (l : List Int) : Prop := Wx w v l ∧ ∀ a n c, v = .slice (some a) n c → 0 < n → a.block ≠ nb
theorem Wbx.up {w w' : World} (hu : Up w w') {nb : Nat} {v : Value} {l : List Int} (h : Wbx w nb v l) : Wbx w' nb v l := ⟨h.1.up hu, h.2⟩
theorem OwnW.wbx {w : World} {nb b : Nat} {v : Value} {l : List Int} (h : OwnW w b v l) (hb : nb < b) : Wbx w nb v l := by
  refine ⟨h.wx, fun a n c e h0 => ?_⟩
  obtain ⟨_, ⟨rfl, h1⟩ | ⟨g, cap, cur, rfl, h2, _⟩⟩ := h
  · simp at e
  · injection e with e1
    injection e1 with e1
    subst e1
    show g ≠ nb
    omega
theorem Wx.wbx {w : World} {nb : Nat} {v : Value} {l : List Int} (h : Wx w v l) (hn : w.heap.size ≤ nb) : Wbx w nb v l := by
  refine ⟨h, fun a n c e h0 => ?_⟩
  rcases h with ⟨rfl, p, c', rfl⟩ | ⟨g, o, cap, C, rfl, -, hB, -⟩
  · injection e with e1 e2
    omega
  · injection e with e1
    injection e1 with e1
    subst e1
    have := hB.lt
    show g ≠ nb
    omega
theorem Wbx.other {w : World} {nb : Nat} {v : Value} {l : List Int} (h : Wbx w nb v l) (D : Array Value) : Wbx (w.setRow nb D) nb v l := by
  obtain ⟨h1, h2⟩ := h
  refine ⟨?_, h2⟩
  rcases h1 with h1 | ⟨g', o', cap, C, hv, hc, hB, ht⟩
  · exact .inl h1
  · rcases Nat.eq_zero_or_pos l.length with h0 | h0
    · exact .inl ⟨List.length_eq_zero_iff.1 h0, _, _, by rw [hv, h0]⟩
    · exact .inr ⟨g', o', cap, C, hv, hc, Blk.row_other hB D (h2 _ _ _ hv h0), ht⟩
def OwnX (w : World) (base nb : Nat) (v : Value) (L : List (List Int)) : Prop :=
  ∃ xs : List Value, w.ownsRow base 38 1 v L.length xs ∧ ∀ i, i < L.length → ∃ s, xs[i]? = some s ∧ Wbx w nb s (L.getD i [])
theorem OwnX.up {w w' : World} {base nb : Nat} {v : Value} {L : List (List Int)} (hu : Up w w') (h : OwnX w base nb v L) : OwnX w' base nb v L := by
  obtain ⟨xs, h1, h2⟩ := h
  exact ⟨xs, World.ownsRow.up h1 hu, fun i hi => by obtain ⟨s, h5, h6⟩ := h2 i hi; exact ⟨s, h5, h6.up hu⟩⟩
theorem OwnX.nil (w : World) (base nb : Nat) : OwnX w base nb (.slice none 0 0) [] := ⟨[], World.ownsRow_nil _ _ _ _, fun _ hi => absurd hi (Nat.not_lt_zero _)⟩
theorem OwnX.other {w : World} {base nb : Nat} {v : Value} {L : List (List Int)} {C : Array Value} (h : OwnX w base nb v L) (hC : Blk w nb 33 C) (D : Array Value) : OwnX (w.setRow nb D) base nb v L := by
  obtain ⟨xs, ⟨h0, h1⟩, h2⟩ := h
  refine ⟨xs, ⟨h0, ?_⟩, fun i hi => by obtain ⟨s, h5, h6⟩ := h2 i hi; exact ⟨s, h5, h6.other D⟩⟩
  rcases h1 with h1 | ⟨g', cap, cur, hv, hb, hB, hr⟩
  · exact .inl h1
  · refine .inr ⟨g', cap, cur, hv, hb, Blk.row_other hB D fun e => ?_, hr⟩
    subst e
    unfold Blk at hC
    rw [hC] at hB
    simp at hB
theorem OwnR.ownx {w : World} {base nb : Nat} {v : Value} {L : List (List Int)} (h : OwnR w base v L) (hn : w.heap.size ≤ nb) : OwnX w base nb v L := by
  obtain ⟨xs, h1, h2⟩ := h
  exact ⟨xs, h1, fun i hi => by obtain ⟨s, h3, h4⟩ := h2 i hi; exact ⟨s, h3, h4.1.wx.wbx hn⟩⟩
theorem OwnX.open {w : World} {b nb : Nat} {v : Value} {L : List (List Int)} (h : OwnX w b nb v L) (h0 : 0 < L.length) :
    ∃ g cap C, v = .slice (some ⟨g, 0, none⟩) L.length cap ∧ b ≤ g ∧ L.length ≤ cap ∧ Blk w g 38 C ∧ ∀ i, i < L.length → ∃ s, C[i]? = some s ∧ Wbx w nb s (L.getD i []) := by
  obtain ⟨xs, ⟨_, h1 | ⟨g, cap, cur, hv, hbb, hB, hc, _, _, ht⟩⟩, h2⟩ := h
  · omega
  · refine ⟨g, cap, cur, hv, hbb, hc, hB, fun i hi => ?_⟩
    obtain ⟨s, h3, h4⟩ := h2 i hi
    rw [← ht, List.getElem?_take_of_lt (by omega), Array.getElem?_toList] at h3
    exact ⟨s, h3, h4⟩
theorem OwnX.slice {w : World} {base nb : Nat} {v : Value} {L : List (List Int)} (h : OwnX w base nb v L) : ∃ p c, v = .slice p L.length c := by
  rcases Nat.eq_zero_or_pos L.length with h0 | h0
  · obtain ⟨xs, ⟨_, ⟨rfl, h1⟩ | ⟨g, cap, cur, hv, _⟩⟩, _⟩ := h
    · exact ⟨none, 0, by rw [h0]⟩
    · exact ⟨_, cap, hv⟩
  · obtain ⟨g, cap, C, hv, _⟩ := h.open h0
    exact ⟨_, cap, hv⟩
theorem Rx.tail1 {w : World} {g n cap : Nat} {C : Array Value} {L : List (List Int)} (hl : L.length = n + 1) (hc : n + 1 ≤ cap) (hB : Blk w g 38 C) (hE : ∀ i, i < L.length → ∃ s, C[i]? = some s ∧ Wx w s (L.getD i [])) : Rx w (.slice (some ⟨g, 1, none⟩) n (cap - 1)) (L.drop 1) := by
  have hn : (L.drop 1).length = n := by rw [List.length_drop]; omega
  refine .inr ⟨g, 1, cap - 1, C, by rw [hn], by rw [hn]; omega, hB, fun i hi => ?_⟩
  rw [hn] at hi
  obtain ⟨s, h1, h2⟩ := hE (i + 1) (by omega)
  refine ⟨s, by rw [Nat.add_comm]; exact h1, ?_⟩
  have e : (L.drop 1).getD i [] = L.getD (i + 1) [] := by rw [List.getD_eq_getElem?_getD, List.getD_eq_getElem?_getD, List.getElem?_drop, Nat.add_comm]
  rw [e]
  exact h2
theorem Wx.grown {w w' : World} {row : Option Nat} {v : Value} {l : List Int} (h : Wx w v l) (hg : w.grownBy w' row) (hr : ∀ k, row = some k → ∃ C, Blk w k 38 C) : Wx w' v l := by
  rcases h with h | ⟨g, o, cap, C, h1, h2, h3, h4⟩
  · exact .inl h
  · refine .inr ⟨g, o, cap, C, h1, h2, ?_, h4⟩
    unfold Blk
    rw [hg.block g h3.lt ?_]
    · exact h3
    · intro e
      obtain ⟨D, hD⟩ := hr g e.symm
      unfold Blk at hD h3
      rw [hD] at h3
      simp at h3
theorem appX {ops : Array Oper} {rest : List Oper} {Q : Exit → Act → World → Prop} {a : Act} {w : World} {d : Option Tmp} {s u : Operand} {ty : TypeId} {pos : String} {af : Array Edge} {base nb g c : Nat} {v : Value} {L : List (List Int)} {x : Value} {r : List Int}
    (hs : a.eval s = v) (hu : a.eval u = .slice (some ⟨g, 0, none⟩) 1 c) (hown : OwnX w base nb v L) (hV : w.cell? ⟨g, 0, none⟩ = some x) (hx : Wbx w nb x r) (hbase : base ≤ w.heap.size) (hl : L.length < 1000000)
    (h : ∀ v' w', OwnX w' base nb v' (L ++ [r]) → w.grownBy w' v.ownBlock → Below base w w' → wpList Tryz.prog ops Q rest (a.put d v') w') :
    wpList Tryz.prog ops Q ({ dst := d, op := .call { callee := .builtin .append, args := #[s, u], argTypes := #[103, 103] }, type := ty, pos := pos, after := af, guard := none } :: rest) a w := by
  obtain ⟨i0, hi0, he⟩ := Option.map_eq_some_iff.1 infoRs
  simp only [Prod.mk.injEq] at he
  obtain ⟨xs, hxs, hE⟩ := hown
  have hlt := World.ownsRow.lt hxs
  have hrow : ∀ k, v.ownBlock = some k → ∃ C, Blk w k 38 C := by
    intro k hk
    obtain ⟨_, ⟨rfl, _⟩ | ⟨g', cap, cur, rfl, _, hB, _⟩⟩ := hxs
    · simp [Value.ownBlock] at hk
    · simp [Value.ownBlock] at hk; subst hk; exact ⟨cur, hB⟩
  have hxl : xs.length = L.length := by have := hxs.1; omega
  obtain ⟨px, cx, rfl⟩ := hx.1.slice
  refine wpList_append_own w rfl s u 103 rfl base 38 i0 _ 1 24 undRs hi0 he.1 he.2.1 he.2.2 rfl (by decide) v L.length xs hs hxs ⟨g, 0, none⟩ 1 c [.slice px r.length cx] hu rfl (fun j y hy => by
    rcases j with _ | j
    · simp at hy; subst hy; rw [Addr.add_mid]; exact hV
    · simp at hy) (by simp [Value.oneCell']) (by unfold maxLen; omega) (by omega) hbase ?_
  intro v' w' h1 h2 _
  refine h v' w' ⟨xs ++ [.slice px r.length cx], by rw [List.length_append]; exact h1, fun i hi => ?_⟩ h2 ⟨h2.os, h2.tape, h2.output, h2.size, fun k hk => h2.block k (by omega) fun e => ?_⟩
  · rw [List.length_append, List.length_singleton] at hi
    by_cases e : i < L.length
    · obtain ⟨s', h3, h4⟩ := hE i e
      refine ⟨s', by rw [List.getElem?_append_left (by omega)]; exact h3, ?_⟩
      rw [show (L ++ [r]).getD i [] = L.getD i [] from by rw [List.getD_eq_getElem?_getD, List.getD_eq_getElem?_getD, List.getElem?_append_left e]]
      exact ⟨h4.1.grown h2 hrow, h4.2⟩
    · obtain rfl : i = L.length := by omega
      refine ⟨_, by rw [List.getElem?_append_right (by omega), hxl, Nat.sub_self]; rfl, ?_⟩
      rw [show (L ++ [r]).getD L.length [] = r from by rw [List.getD_eq_getElem?_getD, List.getElem?_append_right (Nat.le_refl _), Nat.sub_self]; rfl]
      exact ⟨hx.1.grown h2 hrow, hx.2⟩
  · have := hlt k e.symm
    omega
theorem rx_tail {w : World} {g n c2 : Nat} {C : Array Value} {L : List (List Int)} (hl : L.length = n + 1) (hc : n + 1 ≤ c2 + 1) (hB : Blk w g 38 C) (hE : ∀ i, i < L.length → ∃ s, C[i]? = some s ∧ Wx w s (L.getD i [])) : Rx w (tailV g n c2) (L.drop 1) := by
  unfold tailV
  by_cases h0 : c2 = 0
  · have hn : (L.drop 1) = [] := List.length_eq_zero_iff.1 (by rw [List.length_drop]; omega)
    exact .inl ⟨hn, _, _, by rw [show n = 0 by omega]⟩
  · rw [if_neg h0]
    exact Rx.tail1 hl hc hB hE
theorem OwnX.tail {w : World} {b nb g s c2 : Nat} {L : List (List Int)} (h : OwnX w b nb (.slice (some ⟨g, 0, none⟩) (s + 1) (c2 + 1)) L) (hl : L.length = s + 1) : Rx w (tailV g s c2) (L.drop 1) := by
  obtain ⟨g', cap, C, hv, _, hc, hB, hE⟩ := h.open (by omega)
  injection hv with e1 e2 e3
  injection e1 with e1
  injection e1 with e1
  subst e1 e3
  exact rx_tail hl (by omega) hB fun i hi => by obtain ⟨s, h1, h2⟩ := hE i hi; exact ⟨s, h1, h2.1⟩
set_option maxHeartbeats 8000000 in
theorem stakenoff_any {vf vr : Value} {F R : List Int} {q : Int} {n : Nat} {w : World} (hF : Wx w vf F) (hR : Wx w vr R) (lF : F.length = n + 1) (lR : R.length = n + 1) (hn : n ≤ 8)
    (bF : Few F) (bR : Few R) (bq : q.natAbs < bp 5) (q0 : q ≠ 0) :
    Calls Tryz.prog 133 #[vf, vr, wideV (enc q)] w fun r w' => ∃ z, r = .returned z ∧ Up w w' ∧ ∃ b, w.heap.size ≤ b ∧ OwnW w' b z (tk F R q n) := by
  obtain ⟨gF, oF, cF, CF, rfl, -, hBF, htF⟩ := hF.open (by omega)
  obtain ⟨gR, oR, cR, CR, rfl, hcR, hBR, htR⟩ := hR.open (by omega)
  obtain ⟨old, hold⟩ : ∃ o, R.drop 1 = o := ⟨_, rfl⟩
  obtain rfl : n = old.length := by rw [← hold, List.length_drop]; omega
  have hRng16 : ∀ w', Blk w' gR 33 CR → w'.rangeAt gR (oR + 16) (wcs old) := fun w' hB => hold ▸ wx_drop1 hB htR lR
  have HRng16 := hid hRng16
  have HRng0 : Hid (old.length = 0 → ∀ (w' : World) g o, w'.rangeAt g o (wcs old)) := hid (fun h w' g o j v hv => by rw [List.length_eq_zero_iff.1 h] at hv; exact absurd hv (by simp [wcs]))
  have HRO : Hid (∀ i, zth old i = zth R (i + 1)) := hid (fun i => by rw [← hold, zth_drop])
  rw [lF, lR]
  rw [lR] at hcR
  obtain ⟨L', hL'⟩ : ∃ x, tk F R q old.length = x := ⟨_, rfl⟩
  have hlL : L'.length = old.length := by rw [← hL']; exact mk_len _ _
  have HlL := hid hlL
  have HAt : Hid (∀ i, i < old.length → zth L' i = (zth F 0 * zth R (i + 1) - zth R 0 * zth F (i + 1)).tdiv q) := hid (fun i hi => by rw [← hL']; exact mk_at hi)
  have HtF := hid htF
  have HtR := hid htR
  have HlF := hid lF
  have HlR := hid lR
  have hq : InR q := few_inR (by omega) bq
  rw [hL']
  obtain ⟨wS, hwS⟩ : ∃ x, w.alloc (.cells (cells 16 (limb (enc q))) 33) = x := ⟨_, rfl⟩
  have hBox : Row wS w.heap.size 33 16 (limb (enc q)) := by rw [← hwS]; exact row_newc _ _ _ rfl
  have hUS : Up w wS := by rw [← hwS]; exact Up.alloc _ _
  have hBFS := hBF.up hUS
  have hBRS := hBR.up hUS
  have hszS : wS.heap.size = w.heap.size + 1 := by rw [← hwS]; simp
  have hgF := hBF.lt
  have hgR := hBR.lt
  clear hF hR hold hRng16 hL' hlL htF htR lF lR hBF hBR
  obtain ⟨c2, rfl⟩ : ∃ c2, cR = c2 + 1 := ⟨cR - 1, by omega⟩
  unfold wideV at *
  rcases c2 with _ | c2
  · obtain rfl : old = [] := List.length_eq_zero_iff.1 (by omega)
    obtain rfl : L' = [] := List.length_eq_zero_iff.1 HlL.out
    go_enter Tryz.func133, Tryz.ntmps133
    go_wp2_with (first
      | ((with_reducible apply appW (l := []) (m := [])); exact rfl; exact rfl; exact OwnW.nil _ wS.heap.size; exact HRng0.out rfl _ _ _; exact Nat.le_refl _; (focus (simp; done)); (focus (simp; done)); rintro v1 w1 hO1 - hb1; rw [List.nil_append] at hO1; obtain ⟨pL, cL, rfl⟩ := hO1.slice))
    go_loopg [15] 1 (fun g ti wr => ti = .int .i64 0 ∧ OwnW wr wS.heap.size (.slice pL 0 cL) [] ∧ Up wS wr)
    case atStart => exact ⟨rfl, hO1, hb1⟩
    case round =>
      clear hO1 hb1
      obtain ⟨rfl, hO1, hb1⟩ := hrel
      go_wp2_with fail
      go_ret
      exact ⟨_, rfl, hUS.trans hb1, _, hUS.size, hO1⟩
  · go_enter Tryz.func133, Tryz.ntmps133
    go_wp2_with (first
      | ((with_reducible apply appW (l := []) (m := old)); exact rfl; exact rfl; exact OwnW.nil _ wS.heap.size; (first | exact HRng16.out _ hBRS | exact HRng0.out (by omega) _ _ _); exact Nat.le_refl _; (focus (simp; done)); (focus omega); rintro v1 w1 hO1 - hb1; rw [List.nil_append] at hO1; obtain ⟨pL, cL, rfl⟩ := hO1.slice))
    have hU1 : Up wS w1 := hb1
    go_loopg [15] old.length (fun g ti wr => ∃ i : Nat, i ≤ old.length ∧ old.length - i ≤ g ∧ ti = .int .i64 (i : Nat) ∧ OwnW wr wS.heap.size (.slice pL old.length cL) (mixed L' old i) ∧ Up wS wr)
    case atStart => exact ⟨0, Nat.zero_le _, by omega, rfl, by rw [mixed_zero]; exact hO1, hU1⟩
    case round =>
      clear hO1 hU1 hb1
      obtain ⟨i, hi, hig, rfl, hO, hu⟩ := hrel
      by_cases hlt : i < old.length
      · have hml := mixed_len HlL.out i
        obtain ⟨gL, cL', CL, hv, hbL, hBL, -, -, -, htL⟩ := hO.open (by omega)
        injection hv with x1 x2 x3
        subst x1 x3
        have hmi : zth (mixed L' old i) i = zth R (i + 1) := by rw [mixed_at HlL.out hlt, HRO.out]
        have hRL : ∀ w', Blk w' gL 33 CL → w'.rangeAt gL (i * 16) (wc (zth R (i + 1))) := fun w' hB => hmi ▸ wv_range hB htL (by omega)
        have HRL := hid hRL
        have HRF0 := hid (fun w' (hB : Blk w' gF 33 CF) => wx_range hB HtF.out (i := 0) (by rw [HlF.out]; omega))
        have HRFi := hid (fun w' (hB : Blk w' gF 33 CF) => wx_range hB HtF.out (i := i + 1) (by rw [HlF.out]; omega))
        have HRR0 := hid (fun w' (hB : Blk w' gR 33 CR) => wx_range hB HtR.out (i := 0) (by rw [HlR.out]; omega))
        have hat := HAt.out i hlt
        have b1 : (zth F 0 * zth R (i + 1)).natAbs < bp 10 := mul_bp (bF 0) (bR (i + 1))
        have b2 : (zth R 0 * zth F (i + 1)).natAbs < bp 10 := mul_bp (bR 0) (bF (i + 1))
        have HM1 := hid (fun w => stimes_any (w := w) (few_inR (by omega) (bF 0)) (few_inR (by omega) (bR (i + 1))) (few_inR (by omega) b1))
        have HM2 := hid (fun w => stimes_any (w := w) (few_inR (by omega) (bR 0)) (few_inR (by omega) (bF (i + 1))) (few_inR (by omega) b2))
        have b3 : (zth F 0 * zth R (i + 1) - zth R 0 * zth F (i + 1)).natAbs < bp 11 := by
          have e : bp 11 = bp 10 * 18446744073709551616 := bp_succ 10
          have := Int.natAbs_sub_le (zth F 0 * zth R (i + 1)) (zth R 0 * zth F (i + 1))
          omega
        have HS := hid (fun w => sless_any (w := w) (few_inR (by omega) b1) (few_inR (by omega) b2) (few_inR (by omega) b3))
        have HD := hid (fun w => div_any (few_inR (by omega) b3) hq w)
        have hdv : divZV (zth F 0 * zth R (i + 1) - zth R 0 * zth F (i + 1)) q = .tuple #[wideV (enc (zth L' i)), wideV (enc ((zth F 0 * zth R (i + 1) - zth R 0 * zth F (i + 1)).tmod q)), .bool true] := by
          unfold divZV
          rw [if_neg (by rintro (h | h); exact q0 h; exact h (few_inR (by omega) (tdiv_bp b3))), ← hat]
        rw [hdv] at HD
        have HSet := hid (mixed_set HlL.out hlt)
        clear b1 b2 b3 hdv hat hRL hmi htL hml x2
        generalize (zth F 0 * zth R (i + 1) - zth R 0 * zth F (i + 1)).tmod q = rest at *
        generalize zth F 0 * zth R (i + 1) - zth R 0 * zth F (i + 1) = dif at *
        generalize zth F 0 * zth R (i + 1) = p1 at *
        generalize zth R 0 * zth F (i + 1) = p2 at *
        go_wp2_with fail
        have hBFr := hBFS.up hu
        have hBRr := hBRS.up hu
        have hBxr := hBox.up hu
        have hgL : wS.heap.size ≤ gL := by omega
        have e1 : IntKind.i64.wrap ((i : Int) + 1) = (i : Int) + 1 := IntWalk.i64_in _ (by omega)
        have e2 : (0 : Int) ≤ (i : Int) + 1 ∧ (i : Int) + 1 < (old.length : Int) + 1 := by omega
        unfold wideV at *
        refine wp_region_upH (S := (fun wq => Up wr wq ∧ Below w.heap.size w wq)) (req := (fun j => j != 19)) (by kernel_rfl) (fun _ _ h hu => ⟨(h.1).trans hu, below_up (h.2) hu⟩) ⟨(by first | exact Up.refl _ | assumption), gUp⟩ (fun wS hSS hSu => ?_)
        have ⟨hS1, hSB⟩ := hSS
        refine wpAnyU_pure (i := 0) (d := (some 18)) (v := ?_) rfl rfl (by kernel_rfl) (fun _ _ _ h => h) hSu.out (Or.inl ⟨by rfl, fun w' _ => yu_value ?_⟩) ?_
        rotate_left
        · (go_simp; (try exact rfl))
        try simp only [Act.put, pu1, pu2, pu3]
        refine wpAnyU_pure (i := 1) (d := (some 19)) (v := ?_) rfl rfl (by kernel_rfl) (fun _ _ _ h => h) hSu.out (Or.inl ⟨by rfl, fun w' _ => yu_value ?_⟩) ?_
        rotate_left
        · (go_simp; (try exact rfl))
        try simp only [Act.put, pu1, pu2, pu3]
        refine wpAnyU_take (i := 2) (d := (some 20)) (v := _) rfl rfl (by kernel_rfl) (fun _ _ _ h => h) hSu.out hSS (Or.inl ⟨by rfl, fun w' hSw => yu_value (run_ldW rfl rfl (HRF0.out _ (hBFr.up hSw.1)))⟩) ?_
        try simp only [Act.put, pu1, pu2, pu3]
        refine wpAnyU_pure (i := 3) (d := (some 21)) (v := ?_) rfl rfl (by kernel_rfl) (fun _ _ _ h => h) hSu.out (Or.inl ⟨by rfl, fun w' _ => yu_value ?_⟩) ?_
        rotate_left
        · (go_simp; (try exact rfl))
        try simp only [Act.put, pu1, pu2, pu3]
        refine wpAnyU_pure (i := 4) (d := (some 22)) (v := ?_) rfl rfl (by kernel_rfl) (fun _ _ _ h => h) hSu.out (Or.inl ⟨by rfl, fun w' _ => yu_value ?_⟩) ?_
        rotate_left
        · (go_simp; (try exact rfl))
        try simp only [Act.put, pu1, pu2, pu3]
        refine wpAnyU_pure (i := 5) (d := (some 23)) (v := ?_) rfl rfl (by kernel_rfl) (fun _ _ _ h => h) hSu.out (Or.inl ⟨by rfl, fun w' _ => yu_value ?_⟩) ?_
        rotate_left
        · (go_simp; (try exact rfl))
        try simp only [Act.put, pu1, pu2, pu3]
        refine wpAnyU_take (i := 6) (d := (some 24)) (v := _) rfl rfl (by kernel_rfl) (fun _ _ _ h => h) hSu.out hSS (Or.inl ⟨by rfl, fun w' hSw => yu_value (run_ldW rfl rfl (HRL.out _ (hBL.up hSw.1)))⟩) ?_
        try simp only [Act.put, pu1, pu2, pu3]
        refine wpAnyU_take (i := 7) (d := (some 25)) (v := _) rfl rfl (by kernel_rfl) (fun _ _ _ h => h) hSu.out hSS (Or.inl ⟨by rfl, fun w' hSw => yu_call ?_ (HM1.out _)⟩) ?_
        · go_simp
        try simp only [Act.put, pu1, pu2, pu3]
        refine wpAnyU_pure (i := 8) (d := (some 26)) (v := ?_) rfl rfl (by kernel_rfl) (fun _ _ _ h => h) hSu.out (Or.inl ⟨by rfl, fun w' _ => yu_value ?_⟩) ?_
        rotate_left
        · (go_simp; (try exact rfl))
        try simp only [Act.put, pu1, pu2, pu3]
        refine wpAnyU_pure (i := 9) (d := (some 27)) (v := ?_) rfl rfl (by kernel_rfl) (fun _ _ _ h => h) hSu.out (Or.inl ⟨by rfl, fun w' _ => yu_value ?_⟩) ?_
        rotate_left
        · (go_simp; (try exact rfl))
        try simp only [Act.put, pu1, pu2, pu3]
        refine wpAnyU_take (i := 10) (d := (some 28)) (v := _) rfl rfl (by kernel_rfl) (fun _ _ _ h => h) hSu.out hSS (Or.inl ⟨by rfl, fun w' hSw => yu_value (run_ldW rfl rfl (HRR0.out _ (hBRr.up hSw.1)))⟩) ?_
        try simp only [Act.put, pu1, pu2, pu3]
        refine wpAnyU_pure (i := 11) (d := (some 29)) (v := ?_) rfl rfl (by kernel_rfl) (fun _ _ _ h => h) hSu.out (Or.inl ⟨by rfl, fun w' _ => yu_value ?_⟩) ?_
        rotate_left
        · (go_simp; (try exact rfl))
        try simp only [Act.put, pu1, pu2, pu3]
        refine wpAnyU_pure (i := 12) (d := (some 30)) (v := ?_) rfl rfl (by kernel_rfl) (fun _ _ _ h => h) hSu.out (Or.inl ⟨by rfl, fun w' _ => yu_value ?_⟩) ?_
        rotate_left
        · (go_simp; (try exact rfl))
        try simp only [Act.put, pu1, pu2, pu3]
        refine wpAnyU_pure (i := 13) (d := (some 31)) (v := ?_) rfl rfl (by kernel_rfl) (fun _ _ _ h => h) hSu.out (Or.inl ⟨by rfl, fun w' _ => yu_value ?_⟩) ?_
        rotate_left
        · (go_simp; (try exact rfl))
        try simp only [Act.put, pu1, pu2, pu3]
        refine wpAnyU_pure (i := 14) (d := (some 32)) (v := ?_) rfl rfl (by kernel_rfl) (fun _ _ _ h => h) hSu.out (Or.inl ⟨by rfl, fun w' _ => yu_value ?_⟩) ?_
        rotate_left
        · (go_simp; (try exact rfl))
        try simp only [Act.put, pu1, pu2, pu3]
        refine wpAnyU_take (i := 15) (d := (some 33)) (v := _) rfl rfl (by kernel_rfl) (fun _ _ _ h => h) hSu.out hSS (Or.inl ⟨by rfl, fun w' hSw => yu_value (run_ldW rfl rfl (HRFi.out _ (hBFr.up hSw.1)))⟩) ?_
        try simp only [Act.put, pu1, pu2, pu3]
        refine wpAnyU_take (i := 16) (d := (some 34)) (v := _) rfl rfl (by kernel_rfl) (fun _ _ _ h => h) hSu.out hSS (Or.inl ⟨by rfl, fun w' hSw => yu_call ?_ (HM2.out _)⟩) ?_
        · go_simp
        try simp only [Act.put, pu1, pu2, pu3]
        refine wpAnyU_take (i := 17) (d := (some 35)) (v := _) rfl rfl (by kernel_rfl) (fun _ _ _ h => h) hSu.out hSS (Or.inl ⟨by rfl, fun w' hSw => yu_call ?_ (HS.out _)⟩) ?_
        · go_simp
        try simp only [Act.put, pu1, pu2, pu3]
        refine wpAnyU_allocW (i := 18) (d := (some 9)) rfl rfl (by kernel_rfl) (by rfl) rfl hSu.out fun w2 hw2 => ?_
        try simp only [Act.put, pu1, pu2, pu3]
        refine wpAnyU_one (i := 19) rfl (by kernel_rfl) (by rfl) fun w3 hw3 => ?_
        refine wp_st_rowN infoW rfl _ _ rfl _ rfl rfl ((Row.up (row_newc _ 16 _ rfl) hw3)) ?_
        refine ⟨fun h => by simp at h, ?_⟩
        try simp only [Act.put, pu1, pu2, pu3]
        refine wpAnyU_done (by kernel_rfl) (fun wF huE => ?_) _
        have hP1 := ((Row.up (row_newc 33 16 (fun _ => 0) (rfl : w2.heap.size = w2.heap.size)) hw3).setRow (limb (enc dif))).up huE
        have hx1 := up_var (hS1.trans hw2) hw3 huE
        have hlt1 := Nat.le_trans hu.size (hS1.trans hw2).size
        clear hS1 hSB hSS hw2 hw3 huE
        obtain ⟨wB, hwB⟩ : ∃ x, wF = x := ⟨_, rfl⟩
        rw [hwB] at hP1 hx1 ⊢
        clear hwB
        obtain ⟨b1, hb1⟩ : ∃ x, w2.heap.size = x := ⟨_, rfl⟩
        rw [hb1] at hP1 hlt1 ⊢
        clear hb1
        have hBxB := hBxr.up hx1
        have hBLB := hBL.up hx1
        have hOB := hO.up hx1
        have huB := hu.trans hx1
        have hltB := hBxB.lt
        clear hx1
        go_wp2_with (first
          | ((with_reducible apply ld_rowP undW infoW); exact rfl; exact rfl; exact gRow)
          | (go_at_call 124; (with_reducible refine (HD.out _).mono ?_); rintro r w7 ⟨rfl, hu7⟩; have hx7 : Up wB w7 := hu7; have hBL7 := hBLB.up hx7; have hset := (hOB.up hx7).set hBL7 (i := i) (by rw [mixed_len HlL.out]; exact hlt) (zth L' i); rw [HSet.out] at hset; have hu8 := below_setRow (huB.trans hx7) hgL (splW CL (i * 16) (zth L' i)))
          | ((with_reducible apply stW_P); exact rfl; exact rfl; exact hBL7; exact hset.2))
        go_roundg (old.length - (i + 1))
        case measure => omega
        case rel => exact ⟨i + 1, hlt, Nat.le_refl _, rfl, hset.1, hu8⟩
      · obtain rfl : i = old.length := by omega
        rw [← HlL.out, mixed_all HlL.out] at hO
        go_wp2_with fail
        go_ret
        rw [HlL.out] at hO
        exact ⟨_, rfl, hUS.trans hu, _, hUS.size, hO⟩
set_option maxHeartbeats 8000000 in
theorem turned_any {vf vo : Value} {F : List Int} {L : List (List Int)} {q : Int} {n nb : Nat} {w : World} (hF : Wbx w nb vf F) (hO : Rx w vo L) (lF : F.length = n + 1) (lL : ∀ i, i < L.length → (L.getD i []).length = n + 1) (hn : n ≤ 8) (h8 : L.length ≤ 8)
    (bF : Few F) (bL : ∀ i, Few (L.getD i [])) (bq : q.natAbs < bp 5) (q0 : q ≠ 0) (hnb : nb < w.heap.size) :
    Calls Tryz.prog 111 #[vf, vo, wideV (enc q)] w fun r w' => ∃ z, r = .returned z ∧ Up w w' ∧ ∃ b, w.heap.size ≤ b ∧ OwnX w' b nb z ((L.map fun R => tk F R q n) ++ [F.drop 1]) := by
  have HTK := hid (fun (R : List Int) (vr : Value) (w' : World) (hu : Up w w') (hR : Wx w' vr R) (lR : R.length = n + 1) (bR : Few R) => stakenoff_any (hF.1.up hu) hR lF lR hn bF bR bq q0)
  have HL := hid lL
  have HB := hid bL
  have hFo := hF.1
  obtain ⟨gF, oF, cF, CF, rfl, hcF, hBF, htF⟩ := hFo.open (by omega)
  have hgn : gF ≠ nb := hF.2 _ _ _ rfl (by omega)
  rw [lF] at hcF
  have HFT := hid (fun w' (hB : Blk w' gF 33 CF) => wx_tail lF hcF hB htF)
  have hdl : (F.drop 1).length = n := by rw [List.length_drop]; omega
  have HDL := hid hdl
  rw [lF] at HTK ⊢
  clear hF hFo htF
  obtain ⟨wS, hwS⟩ : ∃ x, w.alloc (.cells (cells 16 (limb (enc q))) 33) = x := ⟨_, rfl⟩
  have hBox : Row wS w.heap.size 33 16 (limb (enc q)) := by rw [← hwS]; exact row_newc _ _ _ rfl
  have hUS : Up w wS := by rw [← hwS]; exact Up.alloc _ _
  have hML : (L.map fun R => tk F R q n).length = L.length := List.length_map ..
  have HML := hid hML
  have HT := hid (fun k (hk : k < L.length) => take_map_succ (fun R => tk F R q n) L [] hk)
  obtain ⟨T, hT⟩ : ∃ T, (L.map fun R => tk F R q n) = T := ⟨_, rfl⟩
  rw [hT] at HML HT ⊢
  clear hT hML lL bL lF bF hdl
  have hnS : nb < wS.heap.size := Nat.lt_of_lt_of_le hnb hUS.size
  obtain ⟨c2, rfl⟩ : ∃ c2, cF = c2 + 1 := ⟨cF - 1, by omega⟩
  have HE := hid (show ∀ w', Up w w' → ∀ i, i < L.length → ∃ g o, vo.ownBlock = some g ∧ ∃ cO, vo = .slice (some ⟨g, o, none⟩) L.length cO ∧ ∃ s, w'.cell? ⟨g, o + i, none⟩ = some s ∧ Wx w' s (L.getD i []) from fun w' hu i hi => by
    obtain ⟨g, o, cO, CO, rfl, -, hBO, hE⟩ := hO.open (by omega)
    obtain ⟨s, h1, h2⟩ := hE i hi
    exact ⟨g, o, rfl, cO, rfl, s, (hBO.up hu).cell _ h1, h2.up hu⟩)
  obtain ⟨pO, cO, rfl⟩ := hO.slice
  clear hO
  unfold wideV at *
  go_enter Tryz.func111, Tryz.ntmps111
  go_wp2_with fail
  go_loopg [7, 12] L.length (fun g tr ti wr => ∃ k : Nat, k ≤ L.length ∧ L.length - k ≤ g ∧ ti = .int .i64 (k : Nat) ∧ OwnX wr wS.heap.size nb tr (T.take k) ∧ Up wS wr)
  case atStart => exact ⟨0, Nat.zero_le _, by omega, rfl, by rw [List.take_zero]; exact OwnX.nil _ _ _, Up.refl _⟩
  case round =>
    obtain ⟨k, hk, hkg, rfl, hO, hu⟩ := hrel
    have hsz := hu.size
    by_cases hlt : k < L.length
    · obtain ⟨gO, oO, -, cO', hv, s, hcx, h2⟩ := HE.out _ (hUS.trans hu) k hlt
      injection hv with x1 x2 x3
      subst x1 x3
      obtain ⟨ps, cs, rfl⟩ := h2.slice
      have hBx := hBox.up hu
      have HTKk := hid (fun w' (hu' : Up wr w') => HTK.out (L.getD k []) _ w' ((hUS.trans hu).trans hu') (h2.up hu') (HL.out k hlt) (HB.out k))
      have hT9 := HT.out k hlt
      have HT9 := hid hT9
      have HTk : Hid ((T.take k).length < 1000000) := hid (by rw [List.length_take, HML.out]; omega)
      have e1 : IntKind.i64.wrap ((k : Int) + 1) = (k : Int) + 1 := IntWalk.i64_in _ (by omega)
      clear h2 hT9 x2
      generalize L.getD k [] = R at *
      generalize tk F R q n = TK at *
      go_wp2_with (first
        | ((with_reducible apply ld_rowP undW infoW); exact rfl; exact rfl; exact gRow)
        | (go_at_call 133; (with_reducible refine (HTKk.out _ (Up.refl _)).mono ?_); rintro r w3 ⟨z3, rfl, hu3, b3, hb3, hO3⟩; obtain ⟨p3, c3, rfl⟩ := hO3.slice; have hsz3 := hu3.size)
        | ((with_reducible apply appX); exact rfl; exact rfl; exact OwnX.up (hu3.trans (Up.alloc _ _)) hO; exact (Blk.new _ _ rfl).cell 0 rfl; exact (hO3.up (Up.alloc _ _)).wbx (by omega); (focus (simp; omega)); exact HTk.out; rintro v6 w6 hO6 - hb6))
      go_roundg (L.length - (k + 1))
      case measure => omega
      case rel => exact ⟨k + 1, hlt, Nat.le_refl _, rfl, by rw [HT9.out]; exact hO6, Below.trans ((hu.trans hu3).trans (Up.alloc _ _)) hb6⟩
    · obtain rfl : k = L.length := by omega
      rw [← HML.out, List.take_length] at hO
      have HTk : Hid (T.length < 1000000) := hid (by rw [HML.out]; omega)
      have hBFr := hBF.up (hUS.trans hu)
      rcases c2 with _ | c2
      · obtain rfl : n = 0 := by omega
        have HW0 : Hid (∀ w', Wbx w' nb (.slice (some ⟨gF, oF, none⟩) 0 0) (F.drop 1)) := hid (fun w' => ⟨.inl ⟨List.length_eq_zero_iff.1 HDL.out, _, _, rfl⟩, fun _ _ _ e h0 => by injection e with e1 e2; omega⟩)
        have HDl := hid HDL.out
        go_wp2_with (first
          | ((with_reducible apply appX (r := F.drop 1)); exact rfl; exact rfl; exact OwnX.up (Up.alloc _ _) hO; exact (Blk.new _ _ rfl).cell 0 rfl; exact HW0.out _; (focus (simp; omega)); exact HTk.out; rintro v6 w6 hO6 - hb6))
        go_ret
        exact ⟨_, rfl, hUS.trans (Below.trans (hu.trans (Up.alloc _ _)) hb6), _, hUS.size, hO6⟩
      · have HW1 : Hid (∀ w', Blk w' gF 33 CF → Wbx w' nb (.slice (some ⟨gF, oF + 16, none⟩) n (c2 + 1)) (F.drop 1)) := hid (fun w' hB => ⟨HFT.out w' hB, fun _ _ _ e h0 => by injection e with e1; injection e1 with e1; subst e1; exact hgn⟩)
        go_wp2_with (first
          | ((with_reducible apply appX (r := F.drop 1)); exact rfl; exact rfl; exact OwnX.up (Up.alloc _ _) hO; exact (Blk.new _ _ rfl).cell 0 rfl; exact HW1.out _ (hBFr.up (Up.alloc _ _)); (focus (simp; omega)); exact HTk.out; rintro v6 w6 hO6 - hb6))
        go_ret
        exact ⟨_, rfl, hUS.trans (Below.trans (hu.trans (Up.alloc _ _)) hb6), _, hUS.size, hO6⟩
def rowV (n : Nat) (l v : List Int) (i : Nat) : List Int := rowE n l i ++ [zth v i]
def bsE (n : Nat) (l v : List Int) : List (List Int) := (List.range n).map fun i => rowV n l v i
theorem bsE_take_succ (n : Nat) (l v : List Int) {i : Nat} (hi : i < n) : (bsE n l v).take (i + 1) = (bsE n l v).take i ++ [rowV n l v i] := by
  unfold bsE
  rw [take_map_succ _ (List.range n) 0 (by simpa using hi), List.getD_eq_getElem?_getD, List.getElem?_range hi]
  rfl
theorem Win.start (n : Nat) (l v : List Int) : Win n n (bsE n l v) (AV n l v) := by
  have hl : (bsE n l v).length = n := by unfold bsE; simp
  refine ⟨hl, fun i hi => ?_⟩
  have e : (bsE n l v).getD i [] = rowV n l v i := by
    rw [List.getD_eq_getElem?_getD]
    unfold bsE
    rw [List.getElem?_map, List.getElem?_range hi]
    rfl
  have hr : (rowE n l i).length = n := mk_len _ _
  rw [e]
  unfold rowV
  refine ⟨by rw [List.length_append, hr]; rfl, fun j hj => ?_⟩
  unfold AV
  rw [if_pos hi]
  by_cases h : j < n
  · rw [if_pos h]
    unfold zth
    rw [List.getD_eq_getElem?_getD, List.getElem?_append_left (by omega), ← List.getD_eq_getElem?_getD]
    exact mk_at h
  · rw [if_neg h, if_pos (by omega)]
    unfold zth
    rw [List.getD_eq_getElem?_getD, List.getElem?_append_right (by omega), hr, show j - n = 0 by omega]
    rfl
set_option maxHeartbeats 8000000 in
theorem beside_any {v xv : Value} {n : Nat} {l x : List Int} {w : World} (hm : Sm w v n l) (hR : rt n l = true) (hx : Vw w xv x) (hxl : x.length = n) (hI : In64 x) :
    Calls Tryz.prog 110 #[v, xv] w fun r w' => ∃ z, r = .returned z ∧ Up w w' ∧ ∃ b, w.heap.size ≤ b ∧ OwnR w' b z (bsE n l x) := by
  have n8 : n ≤ 8 := by have := (rt_spec hR).2.1; omega
  have HAT := hid (fun (i j : Nat) (hi : i < n) (hj : j < n) w' (hu : Up w w') => at_right (hm.up hu) hR hi hj)
  have HO := hid (fun (i j : Nat) (hi : i < n) (hj : j < n) w => of_any (ent n l i j) (ent_i64 hR hi hj).1 (ent_i64 hR hi hj).2 w)
  have HOV := hid (fun (i : Nat) (hi : i < n) w => of_any (zth x i) (hI i (by omega)).1 (hI i (by omega)).2 w)
  have HXC := hid (fun w' (hu : Up w w') => hx.up hu)
  obtain ⟨px, cx, rfl, -, -⟩ := hx
  rw [hxl]
  obtain ⟨s, rfl, ⟨p, cap, rfl, hcap, hc⟩, hN, hl, hlen⟩ := hm
  obtain ⟨wS, hwS⟩ : ∃ x, w.alloc (.cells #[.int .i64 (n : Int), .slice p l.length cap] 24) = x := ⟨_, rfl⟩
  have hB : Blk wS w.heap.size 24 #[.int .i64 (n : Int), .slice p l.length cap] := by rw [← hwS]; exact Blk.new _ _ rfl
  have hU : Up w wS := by rw [← hwS]; exact Up.alloc _ _
  have hc0 := hB.cell 0 rfl
  have hsl : (bsE n l x).length = n := by unfold bsE; simp
  have HSL := hid hsl
  have HTR := hid (fun i (hi : i < n) => bsE_take_succ n l x hi)
  have HTE := hid (fun i j (hj : j < n) => mk_take_succ (n := n) (fun j => ent n l i j) hj)
  have HXL := hid hxl
  clear hc hl hlen hR hsl hN hI hxl
  unfold wideV at *
  go_enter Tryz.func110, Tryz.ntmps110
  go_wp2_with fail
  clear hwS hc0
  go_loopg [5, 13] n (fun g tr ti wr => ∃ i : Nat, i ≤ n ∧ n - i ≤ g ∧ ti = .int .i64 (i : Nat) ∧ OwnR wr wS.heap.size tr ((bsE n l x).take i) ∧ Up wS wr)
  case atStart => exact ⟨0, Nat.zero_le _, by omega, rfl, by rw [List.take_zero]; exact OwnR.nil _ _, Up.refl _⟩
  case round =>
    obtain ⟨i, hi, hig, rfl, hO, hu⟩ := hrel
    have hc0 := (hB.up hu).cell 0 rfl
    by_cases hlt : i < n
    · have e1 : IntKind.i64.wrap ((i : Int) + 1) = (i : Int) + 1 := IntWalk.i64_in _ (by omega)
      go_wp2_with fail
      obtain ⟨wO, hwO⟩ : ∃ y, wr = y := ⟨_, rfl⟩
      rw [hwO] at hO hu hc0 ⊢
      clear hwO
      go_loopg [7, 18] n (fun g te tj wr => ∃ j : Nat, j ≤ n ∧ n - j ≤ g ∧ tj = .int .i64 (j : Nat) ∧ OwnW wr wO.heap.size te ((rowE n l i).take j) ∧ Up wO wr)
      case atStart => exact ⟨0, Nat.zero_le _, by omega, rfl, by rw [List.take_zero]; exact OwnW.nil _ _, Up.refl _⟩
      case round =>
        clear hc0
        obtain ⟨j, hj, hjg, rfl, hE, huj⟩ := hrel
        have hBj := hB.up (hu.trans huj)
        have hc0 := hBj.cell 0 rfl
        by_cases hjlt : j < n
        · have e2 : IntKind.i64.wrap ((j : Int) + 1) = (j : Int) + 1 := IntWalk.i64_in _ (by omega)
          have HA := hid (fun w' (hu' : Up wr w') => HAT.out i j hlt hjlt w' (hU.trans ((hu.trans huj).trans hu')))
          have HOf := hid (HO.out i j hlt hjlt)
          have HT9 := hid (HTE.out i j hjlt)
          have HTk : Hid (((rowE n l i).take j).length < 1000000) := hid (by rw [List.length_take]; omega)
          have hszj := huj.size
          generalize ent n l i j = z at *
          go_wp2_with (first
            | ((with_reducible apply ldM_P); exact rfl; exact rfl; exact hBj; exact rfl)
            | (go_at_call 98; (with_reducible refine (HA.out _ (Up.refl _)).mono ?_); rintro r w2 ⟨rfl, hu2⟩; have hs2 := hu2.size)
            | (go_at_call 54; (with_reducible refine (HOf.out _).mono ?_); rintro r w3 ⟨rfl, hu3⟩; have hs3 := hu3.size)
            | ((with_reducible apply bsW_P); exact rfl)
            | ((with_reducible apply appW (l := (rowE n l i).take j) (m := [z])); exact rfl; exact rfl; exact OwnW.up ((hu2.trans hu3).trans (Up.alloc _ _)) hE; exact one_range rfl; (focus (simp; omega)); exact HTk.out; (focus (simp; done)); rintro v6 w6 hO6 - hb6))
          go_roundg (n - (j + 1))
          case measure => omega
          case rel => exact ⟨j + 1, hjlt, Nat.le_refl _, rfl, by rw [show rowE n l i = mk n fun j => ent n l i j from rfl, HT9.out]; exact hO6, Below.trans (huj.trans ((hu2.trans hu3).trans (Up.alloc _ _))) hb6⟩
        · obtain rfl : j = n := by omega
          rw [List.take_of_length_le (by show (mk _ _).length ≤ _; rw [mk_len]; exact Nat.le_refl _)] at hE
          obtain ⟨pe, ce, rfl⟩ := hE.slice
          have HT9 := hid (HTR.out i hlt)
          have HTk : Hid (((bsE j l x).take i).length < 1000000) := hid (by rw [List.length_take]; omega)
          have HRl : Hid ((rowE j l i).length < 1000000) := hid (by show (mk _ _).length < _; rw [mk_len]; omega)
          have hszj := huj.size
          have hszu := hu.size
          have HOf := hid (HOV.out i hlt)
          obtain ⟨q', cq', xq, _, hcq⟩ := HXC.out _ (hU.trans (hu.trans huj))
          injection xq with y1 y2 y3
          subst y1
          obtain ⟨a2, rfl, hck⟩ := hcq i (by rw [HXL.out]; exact hlt)
          clear hcq y2 y3
          have eRV : rowV j l x i = rowE j l i ++ [zth x i] := rfl
          rw [eRV] at HT9
          clear eRV
          generalize zth x i = z at *
          go_wp2_with (first
            | (go_at_call 54; (with_reducible refine (HOf.out _).mono ?_); rintro r w3 ⟨rfl, hu3⟩; have hs3 := hu3.size)
            | ((with_reducible apply bsW_P); exact rfl)
            | ((with_reducible apply appW (l := rowE j l i) (m := [z])); exact rfl; exact rfl; exact OwnW.up (hu3.trans (Up.alloc _ _)) hE; exact one_range rfl; (focus (simp; omega)); exact HRl.out; (focus (simp; done)); rintro v5 w5 hO5 - hb5; obtain ⟨p5, c5, rfl⟩ := hO5.slice; rw [List.length_append, List.length_singleton] at hO5; have hUw : Up wO w5 := Below.trans (huj.trans (hu3.trans (Up.alloc _ _))) hb5; have hs5 := hUw.size)
            | ((with_reducible apply appR (r := rowE j l i ++ [z])); exact rfl; exact rfl; exact OwnR.up (hUw.trans (Up.alloc _ _)) hO; exact (Blk.new _ _ rfl).cell 0 rfl; exact (hO5.up (Up.alloc _ _)).wb (by omega); (focus (simp; omega)); exact HTk.out; rintro v6 w6 hO6 - hb6))
          go_roundg (j - (i + 1))
          case measure => omega
          case rel => exact ⟨i + 1, hlt, Nat.le_refl _, rfl, by rw [HT9.out]; exact hO6, Below.trans ((hu.trans hUw).trans (Up.alloc _ _)) hb6⟩
    · obtain rfl : i = n := by omega
      rw [List.take_of_length_le (by rw [HSL.out]; exact Nat.le_refl _)] at hO
      go_wp2_with fail
      go_ret
      exact ⟨_, rfl, hU.trans hu, _, hU.size, hO⟩
theorem resTC {w : World} {fn : Func} {p u : Tmp} (h : fn.results = #[.tmp u, .cell p 33]) (tmps : Array Value) (g : Nat) (hp : tmps.getD p undef = .pointer (some ⟨g, 0, none⟩))
    {f : Nat → Nat} (hC : Row w g 33 16 f) : (results fn tmps).run Tryz.prog w = .ok (.tuple #[tmps.getD u undef, .agg (cells 16 f)]) w := by
  have hp' : tmps[p]?.getD undef = .pointer (some ⟨g, 0, none⟩) := by simpa using hp
  simp [results, h, hp', asAddr, run_row undW infoW hC, Result.andThen_ok]
theorem run_tailN {ev : Operand → Value} {w : World} {d : Option Tmp} {s : Tmp} {ty : TypeId} {pos : String} {af : Array Edge} {gd : Option (Nat × Bool)} {g n m c c2 : Nat} (hc : m ≤ c2) (hx : ev (.tmp s) = .slice (some ⟨g, 0, none⟩) n c) (hn : n = m + 1) (h2 : c = c2 + 1) (hk : ev (.const (.int .i64 1)) = .int .i64 1) :
    (execOp ev { dst := d, op := .slice 103 (.tmp s) (some (.const (.int .i64 1))) none none, type := ty, pos := pos, after := af, guard := gd }).run Tryz.prog w = .ok (.value (tailV g m c2)) w := by
  subst hn h2
  exact run_tail hc hx hk
def slL (n : Nat) (l x : List Int) : List Int := mk n fun i => slX n l x i
set_option maxHeartbeats 16000000 in
theorem solution_any {v xv : Value} {n : Nat} {l x : List Int} {w : World} (hm : Sm w v n l) (hD : Def n l x) (hx : Vw w xv x) (hxl : x.length = n) (hI : In64 x) :
    Calls Tryz.prog 71 #[v, xv] w fun r w' => ∃ z b, r = .returned (.tuple #[z, wideV (enc (slD n l))]) ∧ Up w w' ∧ w.heap.size ≤ b ∧ OwnW w' b z (slL n l x) := by
  have HBE := hid (fun w' (hu : Up w w') => beside_any (hm.up hu) hD.right (hx.up hu) hxl hI)
  have HO1 := hid (fun w => of_any 1 (by decide) (by decide) w)
  have HD := hid hD
  have hn8 := hD.n8
  obtain ⟨px, cx, rfl, -, -⟩ := hx
  rw [hxl] at HBE ⊢
  clear hxl
  obtain ⟨s, rfl, ⟨p, cap, rfl, hcap, hc⟩, hN, hl, hlen⟩ := hm
  obtain ⟨W0, hW0⟩ : ∃ y, (w.alloc (.cells #[.int .i64 (n : Int), .slice p l.length cap] 24)).alloc (.cells (cells 16 (fun _ => 0)) 33) = y := ⟨_, rfl⟩
  have hB : Blk W0 w.heap.size 24 #[.int .i64 (n : Int), .slice p l.length cap] := by rw [← hW0]; exact (Blk.new _ _ rfl).old _
  have hQ : Row W0 (w.heap.size + 1) 33 16 (fun _ => 0) := by rw [← hW0]; exact row_newc _ _ _ (by simp)
  have hU : Up w W0 := by rw [← hW0]; exact (Up.alloc _ _).trans (Up.alloc _ _)
  rw [← zeros16] at hW0
  have hslen : (slL n l x).length = n := mk_len _ _
  have HSLn := hid hslen
  have HSL := hid (fun i (hi : i < n) => show (slL n l x).take (i + 1) = (slL n l x).take i ++ [slX n l x i] from mk_take_succ (fun i => slX n l x i) hi)
  clear hc hl hlen hN hI hD hslen
  unfold wideV at *
  go_enter Tryz.func71, Tryz.ntmps71
  go_wp2_with (first
    | ((with_reducible apply ldM_P); exact rfl; exact rfl; exact hB; exact rfl)
    | (go_at_call 110; (with_reducible refine (HBE.out _ hU).mono ?_); rintro r w1 ⟨z1, rfl, hu1, b1, hb1, hO1⟩; obtain ⟨pz, cz, rfl⟩ := hO1.slice; have hU1 := hU.trans hu1; have hB1 := hB.up hu1; have hQ1 := hQ.up hu1)
    | (go_at_call 54; (with_reducible refine (HO1.out _).mono ?_); rintro r w2 ⟨rfl, hu2⟩; have hs2 := hu2.size)
    | ((with_reducible apply st_rowP infoW); exact rfl; exact rfl; exact row_newz _ rfl
       refine wpL_folded (fun wd => Up w2 wd ∧ Row wd w2.heap.size 33 16 (limb (enc 1))) ⟨gUp, gRow⟩ ?_
       rintro wL ⟨hXL, hLast⟩
       have hX1 := hu2.trans hXL
       have hU3 := hU1.trans hX1
       have hB3 := hB1.up hX1
       have hQ3 := hQ1.up hX1
       have hO3 := (hO1.ownx (nb := w2.heap.size) hs2).up hX1
       have hc0 := hB3.cell 0 rfl))
  obtain ⟨bL, hbL⟩ : ∃ y, w2.heap.size = y := ⟨_, rfl⟩
  have hwbL : w.heap.size + 1 < bL := by
    have h1 := hQ1.lt
    omega
  rw [hbL] at hLast hO3 ⊢
  have hWin := hid (Win.start n l x)
  have hInv : ∃ (k : Nat) (L : List (List Int)) (bR : Nat), k ≤ n ∧ 0 = k ∧ Win n (n - k) L (gs (AV n l x) k).2 ∧ OwnX wL bR bL (.slice pz (bsE n l x).length cz) L ∧ Row wL bL 33 16 (limb (enc (gs (AV n l x) k).1)) ∧ Row wL (w.heap.size + 1) 33 16 (fun _ => 0) ∧ Up w wL :=
    ⟨0, bsE n l x, b1, by omega, rfl, hWin.out, hO3, hLast, hQ3, hU3⟩
  clear hWin hO3 hLast hQ3 hU3 hX1 hXL hbL hu1 hU1 hb1 hO1 hB1 hQ1 hu2 hs2 hW0 hB hQ hU HBE HO1
  go_wp2_with fail
  go_loopg [6, 18] n (fun g tr ti wr => ∃ (k : Nat) (L : List (List Int)) (bR : Nat), k ≤ n ∧ n - k ≤ g ∧ ti = .int .i64 (k : Nat) ∧ Win n (n - k) L (gs (AV n l x) k).2 ∧ OwnX wr bR bL tr L ∧ Row wr bL 33 16 (limb (enc (gs (AV n l x) k).1)) ∧ Row wr (w.heap.size + 1) 33 16 (fun _ => 0) ∧ Up w wr)
  case atStart =>
    obtain ⟨k, L, bR, h1, h0, h2⟩ := hInv
    subst h0
    exact ⟨0, L, bR, h1, by omega, rfl, h2⟩
  case round =>
    clear hInv hB3 hc0
    obtain ⟨k, L, bR, hk, hkg, rfl, hW, hO, hRow, hQ, hu⟩ := hrel
    obtain ⟨pr, cr, rfl⟩ := hO.slice
    rw [hW.1]
    by_cases hlt : k < n
    · obtain ⟨s, hs⟩ : ∃ s, n - k = s + 1 := ⟨n - k - 1, by omega⟩
      rw [hs] at hW
      obtain ⟨gR, cR, CR, hv, hgR, hcR, hBR, hE⟩ := hO.open (by rw [hW.1]; omega)
      injection hv with x1 x2 x3
      subst x1 x3
      rw [hW.1] at hcR
      obtain ⟨sF, hsF, hWF⟩ := hE 0 (by rw [hW.1]; omega)
      obtain ⟨hLF, hLFe⟩ := hW.2 0 (by omega)
      obtain ⟨gF, oF, cF, CF, hvF, hcF, hBF, htF⟩ := hWF.1.open (by rw [hLF]; omega)
      have HWv : Hid (∀ w', Blk w' gF 33 CF → Wbx w' bL (.slice (some ⟨gF, oF, none⟩) (s + 1 + 1) cF) (L.getD 0 [])) := hid (fun w' hB => ⟨.inr ⟨gF, oF, cF, CF, by rw [hLF], hcF, hB, htF⟩, fun a n c e h0 => hWF.2 a n c (by rw [hvF, hLF]; exact e) h0⟩)
      subst hvF
      rw [hLF] at hsF
      have HSV := hid (HD.out.sv k hk)
      have HPos := hid (gs_pos HD.out.pos' hlt)
      have HLst := hid (fun j => HD.out.last hlt j)
      have HRng : Hid (∀ w', Blk w' gF 33 CF → w'.rangeAt gF oF (wc ((gs (AV n l x) k).2 0 0))) := hid (fun w' hB => by
        have h := wx_range hB htF (i := 0) (by rw [hLF]; omega)
        rw [hLFe 0 (by omega), Nat.zero_mul] at h
        exact h)
      have hcx := hBR.cell 0 hsF
      have hlt9 := hRow.lt
      have e1 : IntKind.i64.wrap ((k : Int) + 1) = (k : Int) + 1 := IntWalk.i64_in _ (by omega)
      have HW := hid hW
      have HLF := hid hLF
      have HG1 : Hid ((gs (AV n l x) (k + 1)).1 = (gs (AV n l x) k).2 0 0) := hid rfl
      have HG2 : Hid ((gs (AV n l x) (k + 1)).2 = nxt (gs (AV n l x) k).1 (gs (AV n l x) k).2) := hid rfl
      have hcR2 := hcR
      have e0 : (0 : Int) < (s : Int) + 1 + 1 := by omega
      rw [hW.1] at hO
      clear hLFe htF hWF hsF hE x2 hcF hW hLF hcR
      obtain ⟨q, hq⟩ : ∃ q, (gs (AV n l x) k).1 = q := ⟨_, rfl⟩
      obtain ⟨M, hM⟩ : ∃ M, (gs (AV n l x) k).2 = M := ⟨_, rfl⟩
      rw [hq, hM] at HSV
      rw [hM] at HPos HRng HW HG1
      rw [hq] at hRow
      rw [hq, hM] at HG2
      have HLst2 : Hid (∀ j, nxt q M (n - 1) j = M 0 (j + 1)) := hid (fun j => by have := HLst.out j; rw [HG2.out, hM] at this; exact this)
      clear hq hM HLst
      obtain ⟨m, hm⟩ : ∃ m, n = m + 1 := ⟨n - 1, by omega⟩
      obtain ⟨c2, hc2⟩ : ∃ c2, cr = c2 + 1 := ⟨cr - 1, by omega⟩
      have Hm := hid hm
      have Hc2 := hid hc2
      have hmc : m ≤ c2 := by omega
      have hO' : OwnX wr bR bL (.slice (some ⟨gR, 0, none⟩) (m + 1) (c2 + 1)) L := by rw [← hm, ← hc2]; exact hO
      have HO' := hid hO'
      clear hm hc2 hO' hO
      obtain ⟨NX, hNX⟩ : ∃ y, turn q s L = y := ⟨_, rfl⟩
      have HNX := hid hNX
      have HFW : Hid (∀ w', Up wr w' → Calls Tryz.prog 111 #[.slice (some ⟨gF, oF, none⟩) (s + 1 + 1) cF, tailV gR m c2, .agg (cells 16 (limb (enc q)))] w' (fun e w'' => Up w' w'' ∧ ∃ v, e = .returned v ∧ (fun v w'' => ∃ b, wr.heap.size ≤ b ∧ OwnX w'' b bL v NX) v w'')) := hid (fun w' hu' => by
        have hf := turned_any (q := q) (n := s + 1) (nb := bL) (HWv.out w' (hBF.up hu')) ((HO'.out.up hu').tail (by rw [HW.out.1]; exact Hm.out)) HLF.out (fun i hi => by
            rw [List.length_drop, HW.out.1] at hi
            rw [show (L.drop 1).getD i [] = L.getD (i + 1) [] from by rw [List.getD_eq_getElem?_getD, List.getD_eq_getElem?_getD, List.getElem?_drop, Nat.add_comm]]
            exact (HW.out.2 (i + 1) (by omega)).1) (by omega) (by rw [List.length_drop, HW.out.1]; omega) (HW.out.few HSV.out (by omega) 0) (fun i => by rw [show (L.drop 1).getD i [] = L.getD (i + 1) [] from by rw [List.getD_eq_getElem?_getD, List.getD_eq_getElem?_getD, List.getElem?_drop, Nat.add_comm]]; exact HW.out.few HSV.out (by omega) (i + 1)) HSV.out.2.2 (Int.ne_of_gt HSV.out.2.1) (Nat.lt_of_lt_of_le hlt9 hu'.size)
        unfold wideV at hf
        rw [show ((L.drop 1).map fun R => tk (L.getD 0 []) R q (s + 1)) ++ [(L.getD 0 []).drop 1] = turn q s L from rfl, hNX] at hf
        refine hf.mono fun _ _ h => ?_
        obtain ⟨z, rfl, hu, b, hb, hO⟩ := h
        exact ⟨hu, z, rfl, b, Nat.le_trans hu'.size hb, hO⟩)
      clear hNX
      obtain ⟨m0, hm0⟩ : ∃ y, M 0 0 = y := ⟨_, rfl⟩
      rw [hm0] at HRng HG1
      clear hm0
      go_wp2_with fail
      refine wp_region_upH (S := (fun wq => Up wr wq ∧ Below w.heap.size w wq)) (req := (fun j => j != 9)) (by kernel_rfl) (fun _ _ h hu => ⟨(h.1).trans hu, below_up (h.2) hu⟩) ⟨(by first | exact Up.refl _ | assumption), gUp⟩ (fun wS hSS hSu => ?_)
      have ⟨hS1, hSB⟩ := hSS
      refine wpAnyU_pure (i := 0) (d := (some 23)) (v := ?_) rfl rfl (by kernel_rfl) (fun _ _ _ h => h) hSu.out (Or.inl ⟨by rfl, fun w' _ => yu_value ?_⟩) ?_
      rotate_left
      · (go_simp; (try exact rfl))
      try simp only [Act.put, pu1, pu2, pu3]
      refine wpAnyU_pure (i := 1) (d := (some 24)) (v := ?_) rfl rfl (by kernel_rfl) (fun _ _ _ h => h) hSu.out (Or.inl ⟨by rfl, fun w' _ => yu_value ?_⟩) ?_
      rotate_left
      · (go_simp; (try exact rfl))
      try simp only [Act.put, pu1, pu2, pu3]
      refine wpAnyU_pure (i := 2) (d := (some 25)) (v := _) rfl rfl (by kernel_rfl) (fun _ _ _ h => h) hSu.out (Or.inl ⟨by rfl, fun w' _ => yu_value (run_tailN hmc rfl Hm.out Hc2.out rfl)⟩) ?_
      try simp only [Act.put, pu1, pu2, pu3]
      refine wpAnyU_take (i := 3) (d := (some 26)) (v := _) rfl rfl (by kernel_rfl) (fun _ _ _ h => h) hSu.out hSS (Or.inl ⟨by rfl, fun w' hSw => yu_value (run_ld undW infoW _ rfl _ rfl (hRow.up hSw.1))⟩) ?_
      try simp only [Act.put, pu1, pu2, pu3]
      refine wpAnyU_pure (i := 5) (d := (some 28)) (v := ?_) rfl rfl (by kernel_rfl) (fun _ _ _ h => h) hSu.out (Or.inl ⟨by rfl, fun w' _ => yu_value ?_⟩) ?_
      rotate_left
      · (go_simp; (try exact rfl))
      try simp only [Act.put, pu1, pu2, pu3]
      refine wpAnyU_pure (i := 6) (d := (some 29)) (v := ?_) rfl rfl (by kernel_rfl) (fun _ _ _ h => h) hSu.out (Or.inl ⟨by rfl, fun w' _ => yu_value ?_⟩) ?_
      rotate_left
      · (go_simp; (try exact rfl))
      try simp only [Act.put, pu1, pu2, pu3]
      refine wpAnyU_take (i := 7) (d := (some 30)) (v := _) rfl rfl (by kernel_rfl) (fun _ _ _ h => h) hSu.out hSS (Or.inl ⟨by rfl, fun w' hSw => yu_value (run_ldW rfl rfl (HRng.out _ (hBF.up hSw.1)))⟩) ?_
      try simp only [Act.put, pu1, pu2, pu3]
      refine wpAnyU_callE (i := 4) (d := (some 27)) rfl rfl (by kernel_rfl) (by rfl) hSu.out (fun w' => by go_simp) (fun w' hw' => (HFW.out w' (hS1.trans hw'))) fun vG wG hwG hRG => ?_
      try simp only [Act.put, pu1, pu2, pu3]
      obtain ⟨bN, hbN, hON⟩ := hRG
      obtain ⟨pN, cN, rfl⟩ := hON.slice
      refine wpAnyU_pure (i := 8) (d := (some 6)) (v := ?_) rfl rfl (by kernel_rfl) (fun _ _ _ h => h) hSu.out (Or.inl ⟨by rfl, fun w' _ => yu_value ?_⟩) ?_
      rotate_left
      · (go_simp; (try exact rfl))
      try simp only [Act.put, pu1, pu2, pu3]
      refine wpAnyU_one (i := 9) rfl (by kernel_rfl) (by rfl) fun wX hwX => ?_
      refine wp_st_rowN infoW rfl _ _ rfl _ rfl rfl ((hRow.up ((hS1.trans hwG).trans hwX))) ?_
      refine ⟨fun h => by simp at h, ?_⟩
      try simp only [Act.put, pu1, pu2, pu3]
      refine wpAnyU_done (by kernel_rfl) (fun wF huE => ?_) _
      have hUG := (hS1.trans hwG).trans hwX
      have gRow := ((hRow.up hUG).setRow (limb (enc m0))).up huE
      have gO := ((hON.up hwX).other (hRow.up hUG) (cells 16 (limb (enc m0)))).up huE
      have gU := Up.trans (below_setRow (hu.trans hUG) (show w.heap.size ≤ bL by omega) (cells 16 (limb (enc m0)))) huE
      have gQ := ((hQ.up hUG).row_other (cells 16 (limb (enc m0))) (show w.heap.size + 1 ≠ bL by omega)).up huE
      have gW : Win n s NX (nxt q M) := HNX.out ▸ HW.out.next (by omega) HLst2.out
      rw [← HG1.out] at gRow
      rw [← HG2.out] at gW
      clear hS1 hSB hSS hwG hwX huE hON hUG
      go_wp2_with fail
      go_roundg (n - (k + 1))
      case measure => omega
      case rel => exact ⟨k + 1, NX, bN, hlt, Nat.le_refl _, rfl, by rw [show n - (k + 1) = s by omega]; exact gW, gO, gRow, gQ, gU⟩
    · obtain rfl : k = n := by omega
      rw [Nat.sub_self] at hW
      have HRow : Hid (Row wr bL 33 16 (limb (enc (slD k l)))) := hid (by rw [← HD.out.den]; exact hRow)
      clear hRow
      rw [hW.1] at hO
      have HW := hid hW
      have HO := hid hO
      clear hW hO
      go_wp2_with fail
      obtain ⟨wO, hwO⟩ : ∃ y, wr = y := ⟨_, rfl⟩
      rw [hwO] at hu hQ HRow HO ⊢
      clear hwO
      go_loopg [9, 34] k (fun g tn ti wr => ∃ i : Nat, i ≤ k ∧ k - i ≤ g ∧ ti = .int .i64 (i : Nat) ∧ OwnW wr wO.heap.size tn ((slL k l x).take i) ∧ Up wO wr)
      case atStart => exact ⟨0, Nat.zero_le _, by omega, rfl, by rw [List.take_zero]; exact OwnW.nil _ _, Up.refl _⟩
      case round =>
        obtain ⟨i, hi, hig, rfl, hN, hui⟩ := hrel
        by_cases hil : i < k
        · obtain ⟨gR, cR, CR, hv, -, -, hBR, hE⟩ := HO.out.open (by rw [HW.out.1]; omega)
          injection hv with x1 x2 x3
          subst x1 x3
          obtain ⟨sF, hsF, hWF⟩ := hE i (by rw [HW.out.1]; exact hil)
          obtain ⟨hLF, hLFe⟩ := HW.out.2 i hil
          obtain ⟨gF, oF, cF, CF, hvF, hcF, hBF, htF⟩ := hWF.1.open (by rw [hLF]; omega)
          subst hvF
          rw [hLF] at hsF
          have HRng : Hid (∀ w', Blk w' gF 33 CF → w'.rangeAt gF oF (wc (slX k l x i))) := hid (fun w' hB => by
            have h := wx_range hB htF (i := 0) (by rw [hLF]; omega)
            rw [hLFe 0 (by omega), Nat.zero_mul] at h
            exact h)
          have hcx := (hBR.up hui).cell _ hsF
          have hBFi := hBF.up hui
          have HT9 := hid (HSL.out i hil)
          have HTk : Hid (((slL k l x).take i).length < 1000000) := hid (by rw [List.length_take]; omega)
          have e1 : IntKind.i64.wrap ((i : Int) + 1) = (i : Int) + 1 := IntWalk.i64_in _ (by omega)
          have hszi := hui.size
          clear hLFe htF hWF hsF hE x2 hcF hLF
          generalize slX k l x i = z at *
          go_wp2_with (first
            | ((with_reducible apply ldW_P); exact rfl; exact rfl; exact HRng.out _ hBFi)
            | ((with_reducible apply bsW_P); exact rfl)
            | ((with_reducible apply appW (l := (slL k l x).take i) (m := [z])); exact rfl; exact rfl; exact OwnW.up (Up.alloc _ _) hN; exact one_range rfl; (focus (simp; omega)); exact HTk.out; (focus (simp; done)); rintro v6 w6 hO6 - hb6))
          go_roundg (k - (i + 1))
          case measure => omega
          case rel => exact ⟨i + 1, hil, Nat.le_refl _, rfl, by rw [HT9.out]; exact hO6, Below.trans (hui.trans (Up.alloc _ _)) hb6⟩
        · obtain rfl : i = k := by omega
          rw [List.take_of_length_le (by rw [HSLn.out]; exact Nat.le_refl _)] at hN
          have hRow := HRow.out.up hui
          have hQr := hQ.up hui
          have hur := hu.trans hui
          have hszO := hu.size
          obtain ⟨pn, cn, rfl⟩ := hN.slice
          go_wp2_with fail
          refine wp_region_upH (S := (fun wq => Up wr wq ∧ Below w.heap.size w wq)) (req := (fun j => j != 3)) (by kernel_rfl) (fun _ _ h hu => ⟨(h.1).trans hu, below_up (h.2) hu⟩) ⟨(by first | exact Up.refl _ | assumption), gUp⟩ (fun wS hSS hSu => ?_)
          have ⟨hS1, hSB⟩ := hSS
          refine wpAnyU_pure (i := 0) (d := (some 45)) (v := ?_) rfl rfl (by kernel_rfl) (fun _ _ _ h => h) hSu.out (Or.inl ⟨by rfl, fun w' _ => yu_value ?_⟩) ?_
          rotate_left
          · (go_simp; (try exact rfl))
          try simp only [Act.put, pu1, pu2, pu3]
          refine wpAnyU_take (i := 1) (d := (some 46)) (v := _) rfl rfl (by kernel_rfl) (fun _ _ _ h => h) hSu.out hSS (Or.inl ⟨by rfl, fun w' hSw => yu_value (run_ld undW infoW _ rfl _ rfl (hRow.up hSw.1))⟩) ?_
          try simp only [Act.put, pu1, pu2, pu3]
          refine wpAnyU_pure (i := 2) (d := (some 4)) (v := ?_) rfl rfl (by kernel_rfl) (fun _ _ _ h => h) hSu.out (Or.inl ⟨by rfl, fun w' _ => yu_value ?_⟩) ?_
          rotate_left
          · (go_simp; (try exact rfl))
          try simp only [Act.put, pu1, pu2, pu3]
          refine wpAnyU_one (i := 3) rfl (by kernel_rfl) (by rfl) fun wX hwX => ?_
          refine wp_st_rowN infoW rfl _ _ rfl _ rfl rfl ((hQr.up (hS1.trans hwX))) ?_
          refine ⟨fun h => by simp at h, ?_⟩
          try simp only [Act.put, pu1, pu2, pu3]
          refine wpAnyU_done (by kernel_rfl) (fun wF huE => ?_) _
          have hUG := hS1.trans hwX
          have gQ := ((hQr.up hUG).setRow (limb (enc (slD i l)))).up huE
          have gU := Up.trans (below_setRow (hur.trans hUG) (show w.heap.size ≤ w.heap.size + 1 by omega) (cells 16 (limb (enc (slD i l))))) huE
          have gN := ((hN.up hUG).below (show w.heap.size + 1 < wO.heap.size by have := hQ.lt; omega) (cells 16 (limb (enc (slD i l))))).up huE
          clear hS1 hSB hSS hwX huE hUG
          go_wp2_with fail
          exact bodyPost_ret (resTC rfl _ _ rfl gQ) rfl ⟨.slice pn (slL i l x).length cn, _, rfl, gU, hszO, gN⟩
theorem infoF : (Tryz.prog.info? 76).map (fun i => (i.zero.map (·.cells.size), i.size, i.bytes)) = some (some 32, 32, 256) := by kernel_rfl
theorem infoF1 : (Tryz.prog.info? 76).map (·.size) = some 32 := by kernel_rfl
theorem undFs : Tryz.prog.underlying 62 = some (.slice 76) := by kernel_rfl
theorem undF0 : (match Tryz.prog.underlying 76 with | some (.struct _) => true | _ => false) = true := by kernel_rfl
theorem undF : ∃ fs, Tryz.prog.underlying 76 = some (.struct fs) := by
  have h := undF0
  split at h
  · rename_i fs e; exact ⟨fs, e⟩
  · cases h
def fA (z D : Int) : Array Value := cells 16 (limb (enc z)) ++ cells 16 (limb (enc D))
def fc (D z : Int) : List Value := wc z ++ wc D
def fcs (D : Int) (l : List Int) : List Value := l.flatMap (fc D)
theorem fA_list (z D : Int) : (fA z D).toList = fc D z := by unfold fA fc wc; simp
theorem fc_len (D z : Int) : (fc D z).length = 32 := by unfold fc; rw [List.length_append, wc_len, wc_len]
theorem fA_size (z D : Int) : (fA z D).size = 32 := by rw [← Array.length_toList, fA_list, fc_len]
theorem fc_one (D z : Int) : ∀ u ∈ fc D z, u.oneCell' = true := fun u hu => by
  unfold fc at hu
  rcases List.mem_append.1 hu with h | h
  · exact wc_one _ _ h
  · exact wc_one _ _ h
theorem fcs_nil (D : Int) : fcs D [] = [] := rfl
theorem fcs_cons (D z : Int) (l : List Int) : fcs D (z :: l) = fc D z ++ fcs D l := rfl
theorem fcs_append (D : Int) (l m : List Int) : fcs D (l ++ m) = fcs D l ++ fcs D m := by unfold fcs; rw [List.flatMap_append]
theorem fcs_len (D : Int) (l : List Int) : (fcs D l).length = l.length * 32 := by
  induction l with
  | nil => rfl
  | cons z l ih => rw [fcs_cons, List.length_append, fc_len, ih, List.length_cons]; omega
theorem fcs_mid {D : Int} {l : List Int} {i j : Nat} (h : i < l.length) (hj : j < 32) : (fcs D l)[i * 32 + j]? = (fc D (zth l i))[j]? := by
  have h1 : (fcs D (l.take i)).length = i * 32 := by rw [fcs_len, List.length_take]; omega
  have e := congrArg (fcs D) (zth_split h)
  rw [fcs_append, fcs_cons] at e
  rw [e, List.getElem?_append_right (by omega), h1, show i * 32 + j - i * 32 = j by omega, List.getElem?_append_left (by rw [fc_len]; exact hj)]
def OwnF (w : World) (base : Nat) (v : Value) (D : Int) (l : List Int) : Prop := w.ownsRow base 76 32 v l.length (fcs D l)
theorem OwnF.up {w w' : World} {base : Nat} {v : Value} {D : Int} {l : List Int} (hu : Up w w') (h : OwnF w base v D l) : OwnF w' base v D l := World.ownsRow.up h hu
theorem OwnF.nil (w : World) (base : Nat) (D : Int) : OwnF w base (.slice none 0 0) D [] := World.ownsRow_nil _ _ _ _
def Fv (w : World) (v : Value) (D : Int) (l : List Int) : Prop :=
  (l = [] ∧ ∃ p c, v = .slice p 0 c) ∨ ∃ g cap C, v = .slice (some ⟨g, 0, none⟩) l.length cap ∧ l.length ≤ cap ∧ Blk w g 76 C ∧ C.toList.take (l.length * 32) = fcs D l
theorem Fv.up {w w' : World} (hu : Up w w') {v : Value} {D : Int} {l : List Int} (h : Fv w v D l) : Fv w' v D l := by
  rcases h with h | ⟨g, cap, C, h1, h2, h3, h4⟩
  · exact .inl h
  · exact .inr ⟨g, cap, C, h1, h2, h3.up hu, h4⟩
theorem OwnF.fv {w : World} {base : Nat} {v : Value} {D : Int} {l : List Int} (h : OwnF w base v D l) : Fv w v D l := by
  obtain ⟨_, ⟨rfl, h0⟩ | ⟨g, cap, cur, rfl, _, hB, hc, _, _, ht⟩⟩ := h
  · exact .inl ⟨List.length_eq_zero_iff.1 h0, _, _, rfl⟩
  · exact .inr ⟨g, cap, cur, rfl, hc, hB, ht⟩
theorem Fv.nil (w : World) (D : Int) : Fv w (.slice none 0 0) D [] := .inl ⟨rfl, _, _, rfl⟩
theorem Fv.slice {w : World} {v : Value} {D : Int} {l : List Int} (h : Fv w v D l) : ∃ p c, v = .slice p l.length c := by
  rcases h with ⟨rfl, p, c, rfl⟩ | ⟨g, cap, C, rfl, _⟩
  · exact ⟨p, c, rfl⟩
  · exact ⟨_, cap, rfl⟩
theorem Fv.open {w : World} {v : Value} {D : Int} {l : List Int} (h : Fv w v D l) (h0 : 0 < l.length) :
    ∃ g cap C, v = .slice (some ⟨g, 0, none⟩) l.length cap ∧ l.length ≤ cap ∧ Blk w g 76 C ∧ C.toList.take (l.length * 32) = fcs D l := by
  rcases h with ⟨rfl, _⟩ | h
  · exact absurd h0 (by decide)
  · exact h
theorem fv_range {w : World} {g : Nat} {C : Array Value} {D : Int} {l : List Int} (hB : Blk w g 76 C) (ht : C.toList.take (l.length * 32) = fcs D l) {i : Nat} (hi : i < l.length) : w.rangeAt g (i * 32) (fc D (zth l i)) := by
  intro j v hv
  have hj : j < 32 := by have := (List.getElem?_eq_some_iff.1 hv).1; rw [fc_len] at this; exact this
  refine hB.cell _ ?_
  have h1 : (C.toList.take (l.length * 32))[i * 32 + j]? = some v := by rw [ht, fcs_mid hi hj]; exact hv
  rw [List.getElem?_take_of_lt (by omega)] at h1
  rw [← Array.getElem?_toList]
  exact h1
theorem fc_num {w : World} {g o : Nat} {D z : Int} (h : w.rangeAt g o (fc D z)) : w.rangeAt g o (wc z) := fun j v hv => by
  refine h j v ?_
  unfold fc
  rw [List.getElem?_append_left (List.getElem?_eq_some_iff.1 hv).1]
  exact hv
theorem fc_den {w : World} {g o : Nat} {D z : Int} (h : w.rangeAt g o (fc D z)) : w.rangeAt g (o + 16) (wc D) := fun j v hv => by
  have h1 := h (16 + j) v (by
    unfold fc
    rw [List.getElem?_append_right (by rw [wc_len]; omega), wc_len, show 16 + j - 16 = j by omega]
    exact hv)
  rw [Nat.add_assoc]
  exact h1
section
variable {a : Act} {w : World} {g off : Nat} {z D : Int}
theorem run_ldF {o : Oper} {ev : Operand → Value} {x : Operand} (ho : o.op = .load 76 x) (hx : ev x = .pointer (some ⟨g, off, none⟩)) (hC : w.rangeAt g off (fc D z)) :
    (execOp ev o).run Tryz.prog w = .ok (.value (.agg (fA z D))) w := by
  obtain ⟨fs, hu⟩ := undF
  unfold execOp
  simp only [ho, hx, Instr.loadAt, Instr.sureAddr, Sem.run_bind, Sem.run_pure, Result.andThen_ok, run_loadVar_mid w g off _ (fc D z) _ hC hu rfl (by rw [infoF1, fc_len])]
  rw [← fA_list, Array.toArray_toList]
theorem ldF_P {ops : Array Oper} {rest : List Oper} {Q : Exit → Act → World → Prop} {d : Option Tmp} {s : Tmp} {ty : TypeId} {pos : String} {af : Array Edge} {gd : Option (Nat × Bool)} (hw : Region.wanted { dst := d, op := .load 76 (.tmp s), type := ty, pos := pos, after := af, guard := gd } (yielded ops a.tmps) = true) (hx : a.eval (.tmp s) = .pointer (some ⟨g, off, none⟩))
    (hC : w.rangeAt g off (fc D z)) (h : wpList Tryz.prog ops Q rest (a.put d (.agg (fA z D))) w) : wpList Tryz.prog ops Q ({ dst := d, op := .load 76 (.tmp s), type := ty, pos := pos, after := af, guard := gd } :: rest) a w :=
  wpList_run hw (run_ldF rfl hx hC) h
end
theorem blkF_range {w : World} {g : Nat} {z D : Int} (hB : Blk w g 76 (fA z D)) : w.rangeAt g 0 (fc D z) := fun j v hv => by
  rw [Nat.zero_add]
  refine hB.cell _ ?_
  rw [← Array.getElem?_toList, fA_list]
  exact hv
theorem fA_one (z D : Int) : (fA z D).all (·.oneCell') = true := by
  rw [Array.all_eq_true_iff_forall_mem]
  intro u hu
  exact fc_one D z u (by rw [← fA_list]; simpa using hu)
theorem stF_P {ops : Array Oper} {rest : List Oper} {Q : Exit → Act → World → Prop} {a : Act} {w : World} {d : Option Tmp} {s u : Tmp} {ty : TypeId} {pos : String} {af : Array Edge} {g : Nat} {C : Array Value} {z D : Int} (hx : a.eval (.tmp s) = .pointer (some ⟨g, 0, none⟩)) (hy : a.eval (.tmp u) = .agg (fA z D)) (hC : Blk w g 76 C) (h2 : C.size = 32)
    (h : wpList Tryz.prog ops Q rest (a.put d undef) (w.setRow g (fA z D))) :
    wpList Tryz.prog ops Q ({ dst := d, op := .store 76 (.tmp s) (.tmp u), type := ty, pos := pos, after := af, guard := none } :: rest) a w :=
  wpList_plain rfl fun _ hK => wp_store_row _ _ _ rfl g (fA z D) hx hy _ C hC (by rw [infoF1, fA_size]) (by rw [h2, fA_size]) (fA_one z D) (hK _ _ h)
theorem run_buildF (f g : Nat → Nat) (w : World) : (Instr.build 76 #[(0, .agg (cells 16 f)), (1, .agg (cells 16 g))]).run Tryz.prog w = .ok (.agg (cells 16 f ++ cells 16 g)) w := by
  unfold cells
  kernel_rfl
theorem bdF_P {ops : Array Oper} {rest : List Oper} {Q : Exit → Act → World → Prop} {a : Act} {w : World} {d : Option Tmp} {s u : Tmp} {ty : TypeId} {pos : String} {af : Array Edge} {gd : Option (Nat × Bool)} {z D : Int}
    (hw : Region.wanted { dst := d, op := .build 76 #[(0, .tmp s), (1, .tmp u)], type := ty, pos := pos, after := af, guard := gd } (yielded ops a.tmps) = true) (hs : a.eval (.tmp s) = .agg (cells 16 (limb (enc z)))) (hu : a.eval (.tmp u) = .agg (cells 16 (limb (enc D))))
    (h : wpList Tryz.prog ops Q rest (a.put d (.agg (fA z D))) w) :
    wpList Tryz.prog ops Q ({ dst := d, op := .build 76 #[(0, .tmp s), (1, .tmp u)], type := ty, pos := pos, after := af, guard := gd } :: rest) a w := by
  refine wpList_run hw ?_ h
  unfold execOp
  simp only [List.map_toArray, List.map_cons, List.map_nil, hs, hu, Sem.run_bind, run_buildF, Result.andThen_ok, Sem.run_pure]
  rfl
theorem fill_oneF (f h : Nat → Nat) (z : Array Value) : Instr.fill (fun i => some (i * 32, 32)) ((Array.range (1 * 32)).map (z[· % z.size]!)) [(0, .agg (cells 16 f ++ cells 16 h))] = some (cells 16 f ++ cells 16 h) := by
  unfold cells
  kernel_rfl
theorem bsF_P {ops : Array Oper} {rest : List Oper} {Q : Exit → Act → World → Prop} {a : Act} {w : World} {d : Option Tmp} {s : Tmp} {ty : TypeId} {pos : String} {af : Array Edge} {z D : Int} (hs : a.eval (.tmp s) = .agg (fA z D))
    (h : wpList Tryz.prog ops Q rest (a.put d (.slice (some ⟨w.heap.size, 0, none⟩) 1 1)) (w.alloc (.cells (fA z D) 76))) :
    wpList Tryz.prog ops Q ({ dst := d, op := .buildSlice 62 1 #[(0, .tmp s)], type := ty, pos := pos, after := af, guard := none } :: rest) a w := by
  obtain ⟨i0, hi0, he⟩ := Option.map_eq_some_iff.1 infoF
  simp only [Prod.mk.injEq] at he
  obtain ⟨z0, hz0, hzs⟩ := Option.map_eq_some_iff.1 he.1
  refine wpList_buildSlice rfl 62 76 1 _ rfl (fA z D) i0 z0 undFs hi0 hz0 (by rw [he.2.1]; decide) (by rw [he.2.1]; decide) ?_ h
  simp only [List.map_toArray, List.map_cons, List.map_nil, hs, he.2.1]
  exact fill_oneF _ _ _
theorem appF {ops : Array Oper} {rest : List Oper} {Q : Exit → Act → World → Prop} {a : Act} {w : World} {d : Option Tmp} {s u : Operand} {ty : TypeId} {pos : String} {af : Array Edge} {base g c : Nat} {v : Value} {D z : Int} {l : List Int}
    (hs : a.eval s = v) (hu : a.eval u = .slice (some ⟨g, 0, none⟩) 1 c) (hown : OwnF w base v D l) (hV : w.rangeAt g 0 (fc D z)) (hbase : base ≤ w.heap.size) (hl : l.length < 1000000)
    (h : ∀ v' w', OwnF w' base v' D (l ++ [z]) → w.grownBy w' v.ownBlock → Below base w w' → wpList Tryz.prog ops Q rest (a.put d v') w') :
    wpList Tryz.prog ops Q ({ dst := d, op := .call { callee := .builtin .append, args := #[s, u], argTypes := #[62, 62] }, type := ty, pos := pos, after := af, guard := none } :: rest) a w := by
  obtain ⟨i0, hi0, he⟩ := Option.map_eq_some_iff.1 infoF
  simp only [Prod.mk.injEq] at he
  obtain ⟨z0, hz0, hzs⟩ := Option.map_eq_some_iff.1 he.1
  have hlt := World.ownsRow.lt hown
  refine wpList_append_own w rfl s u 62 rfl base 76 i0 z0 32 256 undFs hi0 hz0 he.2.1 he.2.2 hzs (by decide) v l.length (fcs D l) hs hown ⟨g, 0, none⟩ 1 c (fc D z) hu (fc_len D z) (fun j x hx => by rw [Addr.add_mid]; exact hV j x hx) (fc_one D z) (by unfold maxLen; omega) (by omega) hbase ?_
  intro v' w' h1 h2 _
  refine h v' w' (by unfold OwnF; rw [List.length_append, fcs_append]; rw [show fcs D [z] = fc D z from by rw [fcs_cons, fcs_nil, List.append_nil]]; exact h1) h2 ⟨h2.os, h2.tape, h2.output, h2.size, fun k hk => h2.block k (by omega) fun e => ?_⟩
  have := hlt k e.symm
  omega
theorem slC_def {N : Int} {l x : List Int} (h : slC N l x = 0) : ∃ n : Nat, N = (n : Int) ∧ Def n l x ∧ x.length = n := by
  unfold slC at h
  by_cases h1 : ftC N l [x] = 0
  · rw [if_pos h1] at h
    unfold ftC at h1
    by_cases h2 : rt N l = true ∧ ∀ i, i < [x].length → (([x].getD i []).length : Int) = N
    · rw [if_pos h2] at h1
      by_cases h3 : ∀ i, i < [x].length → ([x].getD i []).all vfit = true
      · by_cases h4 : dfV N l = true
        · obtain ⟨n0, n8, _, _⟩ := rt_spec h2.1
          obtain ⟨n, rfl⟩ : ∃ n : Nat, N = (n : Int) := ⟨N.toNat, by omega⟩
          have hx : x.length = n := by have := h2.2 0 (by simp); simp at this; omega
          have h5 := h3 0 (by simp)
          refine ⟨n, rfl, ⟨h2.1, ?_, fun i => ?_⟩, hx⟩
          · unfold dfV at h4
            have h6 := (Bool.and_eq_true_iff.1 h4).1
            have e : mnR (n : Int) l = mins n 1 (AM n l) := by unfold mnR; rw [if_pos h2.1]; rfl
            rw [e] at h6
            intro y hy
            exact of_decide_eq_true (List.all_eq_true.1 h6 y hy)
          · by_cases hi : i < x.length
            · have h7 := List.all_eq_true.1 h5 (zth x i) (by rw [zth_get hi]; exact List.getElem_mem _)
              exact of_decide_eq_true h7
            · rw [zth_far (by omega)]; simp
        · rw [if_neg h4] at h; omega
      · rw [if_neg h3] at h1; omega
    · rw [if_neg h2] at h1; omega
  · rw [if_neg h1] at h; exact absurd h h1
def exL (N : Int) (l x : List Int) : List Int := if slC N l x = 0 then slL N.toNat l x else []
def ExactPost (w : World) (N : Int) (l x : List Int) (r : Ending) (w' : World) : Prop := ∃ z u, r = .returned (.tuple #[z, u]) ∧ Up w w' ∧ Fv w' z (slD N.toNat l) (exL N l x) ∧ (slC N l x ≠ 0 → z = .slice none 0 0) ∧ ErrsP solveB w' u (slC N l x)
set_option maxHeartbeats 16000000 in
theorem exact_any {v xv : Value} {N : Int} {l x : List Int} {w : World} (hm : Sm w v N l) (hx : Vw w xv x) (hI : In64 x) (hs : x.length ≤ 1000) :
    Calls Tryz.prog 32 #[v, xv] w (ExactPost w N l x) := by
  have HSO := hid (fun w' (hu : Up w w') => solvable_any (hm.up hu) (hx.up hu) hI hs)
  have HSN := hid (fun (n : Nat) (hN : N = (n : Int)) (hD : Def n l x) (hxl : x.length = n) w' (hu : Up w w') => solution_any (hN ▸ hm.up hu) hD (hx.up hu) hxl hI)
  obtain ⟨px, cx, rfl, -, -⟩ := hx
  obtain ⟨s, rfl, ⟨p, cap, rfl, -, -⟩, -, -, -⟩ := hm
  obtain ⟨W0, hW0⟩ : ∃ W0, w.alloc (.cells #[.int .i64 N, .slice p l.length cap] 24) = W0 := ⟨_, rfl⟩
  have hB : Blk W0 w.heap.size 24 #[.int .i64 N, .slice p l.length cap] := by rw [← hW0]; exact Blk.new _ _ rfl
  have hU : Up w W0 := by rw [← hW0]; exact Up.alloc _ _
  unfold ExactPost
  obtain ⟨C, hC⟩ : ∃ C, slC N l x = C := ⟨_, rfl⟩
  obtain ⟨EX, hEX⟩ : ∃ y, exL N l x = y := ⟨_, rfl⟩
  obtain ⟨D, hDD⟩ : ∃ y, slD N.toNat l = y := ⟨_, rfl⟩
  have HC := hid hC
  have HEX := hid hEX
  have HDD := hid hDD
  rw [hC] at HSO ⊢
  rw [hEX, hDD]
  clear hC hI hs hEX hDD
  go_enter Tryz.func32, Tryz.ntmps32
  go_upto_region 2 with (first
    | ((with_reducible apply ldM_P); exact rfl; exact rfl; exact hB; exact rfl)
    | (go_at_call 70; (with_reducible refine (HSO.out _ hU).mono ?_); rintro r w1 ⟨u1, rfl, hu1, h1⟩; have hB1 := hB.up hu1; have hU1 := hU.trans hu1))
  rcases h1 with ⟨h0, rfl⟩ | ⟨h0, t, y, rfl, hE⟩
  · obtain ⟨n, rfl, hD, hxl⟩ := slC_def (HC.out.trans h0)
    have hex : EX = slL n l x := by rw [← HEX.out]; unfold exL; rw [if_pos (HC.out.trans h0)]; rfl
    have HE2 := hid hex
    have HD2 : Hid (slD n l = D) := hid HDD.out
    have hn8 := hD.n8
    have HSN2 := hid (HSN.out n rfl hD hxl)
    rw [hxl] at HSN2 ⊢
    have hln : (slL n l x).length = n := mk_len _ _
    have HLn := hid hln
    have HSL := hid (fun i (hi : i < n) => show (slL n l x).take (i + 1) = (slL n l x).take i ++ [slX n l x i] from mk_take_succ (fun i => slX n l x i) hi)
    have HAt := hid (fun i (hi : i < n) => show zth (slL n l x) i = slX n l x i from mk_at hi)
    have H0 := hid h0
    clear HSN hD hxl hex h0 hln
    rw [HD2.out] at HSN2
    unfold wideV at *
    go_wp2_with (first
      | ((with_reducible apply ldM_P); exact rfl; exact rfl; exact hB1; exact rfl)
      | (go_at_call 71; (with_reducible refine (HSN2.out _ hU1).mono ?_); rintro r w2 ⟨z2, b2, rfl, hu2, hb2, hO2⟩; obtain ⟨pz, cz, rfl⟩ := hO2.slice; have hU2 := hU1.trans hu2)
      | ((with_reducible apply st_rowP infoW); exact rfl; exact rfl; exact row_newz _ rfl
         refine wpL_folded (fun wd => Up w2 wd ∧ Row wd w2.heap.size 33 16 (limb (enc D))) ⟨gUp, gRow⟩ ?_
         rintro wL ⟨hXL, hDen⟩
         have hO3 := hO2.up hXL
         have hU3 := hU2.trans hXL))
    rw [HLn.out] at hO3 ⊢
    obtain ⟨bD, hbD⟩ : ∃ y, w2.heap.size = y := ⟨_, rfl⟩
    rw [hbD] at hDen ⊢
    have HO3 := hid hO3
    clear hO3 hO2 hXL hU2 hu2 hb2 hW0 hB hU hB1 hu1 hU1 HSO HSN2 hbD
    go_wp2_with fail
    go_loopg [9, 26] n (fun g ta ti wr => ∃ i : Nat, i ≤ n ∧ n - i ≤ g ∧ ti = .int .i64 (i : Nat) ∧ OwnF wr wL.heap.size ta D ((slL n l x).take i) ∧ Up wL wr)
    case atStart => exact ⟨0, Nat.zero_le _, by omega, rfl, by rw [List.take_zero]; exact OwnF.nil _ _ _, Up.refl _⟩
    case round =>
      obtain ⟨i, hi, hig, rfl, hO, hu⟩ := hrel
      have hszu := hu.size
      by_cases hlt : i < n
      · obtain ⟨gZ, cZ, CZ, hv, -, hBZ, -, -, -, htZ⟩ := HO3.out.open (by rw [HLn.out]; omega)
        injection hv with x1 x2 x3
        subst x1 x3
        have HRng : Hid (∀ w', Blk w' gZ 33 CZ → w'.rangeAt gZ (i * 16) (wc (slX n l x i))) := hid (fun w' hB => HAt.out i hlt ▸ wv_range hB htZ (by rw [HLn.out]; exact hlt))
        have hBZr := hBZ.up hu
        have hDr := hDen.up hu
        have e1 : IntKind.i64.wrap ((i : Int) + 1) = (i : Int) + 1 := IntWalk.i64_in _ (by omega)
        have HT9 := hid (HSL.out i hlt)
        have HTk : Hid (((slL n l x).take i).length < 1000000) := hid (by rw [List.length_take]; omega)
        clear htZ x2 hBZ
        generalize slX n l x i = z at *
        go_wp2_with (first
          | ((with_reducible apply ldW_P); exact rfl; exact rfl; exact HRng.out _ hBZr)
          | ((with_reducible apply ld_rowP undW infoW); exact rfl; exact rfl; exact gRow)
          | ((with_reducible apply st_rowP infoW); exact rfl; exact rfl; exact row_newz _ rfl
             refine wpL_folded (fun wd => Up wr wd ∧ Row wd wr.heap.size 33 16 (limb (enc z))) ⟨gUp, gRow⟩ ?_
             rintro wM ⟨hXM, hNum⟩
             have hDm := hDr.up hXM)
          | ((with_reducible apply bdF_P (z := z) (D := D)); exact rfl; exact rfl; exact rfl)
          | ((with_reducible apply bsF_P (z := z) (D := D)); exact rfl)
          | ((with_reducible apply appF (l := (slL n l x).take i) (z := z)); exact rfl; exact rfl; exact OwnF.up (hXM.trans (Up.alloc _ _)) hO; exact blkF_range (Blk.new _ _ rfl); (focus (have := hXM.size; simp; omega)); exact HTk.out; rintro v6 w6 hO6 - hb6))
        go_roundg (n - (i + 1))
        case measure => omega
        case rel => exact ⟨i + 1, hlt, Nat.le_refl _, rfl, by rw [HT9.out]; exact hO6, Below.trans (hu.trans (hXM.trans (Up.alloc _ _))) hb6⟩
      · obtain rfl : i = n := by omega
        rw [List.take_of_length_le (by rw [HLn.out]; exact Nat.le_refl _)] at hO
        go_wp2_with fail
        go_ret2
        exact ⟨_, _, rfl, hU3.trans hu, by rw [HE2.out]; exact hO.fv, fun h => absurd H0.out h, .inl ⟨H0.out, rfl⟩⟩
  · have HC2 := hid h0
    have HE2 : Hid (EX = []) := hid (by rw [← HEX.out]; unfold exL; rw [HC.out]; exact if_neg h0)
    clear h0
    go_wp2_with fail
    go_ret2
    exact ⟨_, _, rfl, hU1, by rw [HE2.out]; exact Fv.nil _ _, fun _ => rfl, .inr ⟨HC2.out, t, y, rfl, hE⟩⟩
def nrN (D z : Int) : Int := (2 * z + D) / (2 * D)
theorem round_any {z D : Int} (hz : z.natAbs < bp 5) (hD : D.natAbs < bp 5) (h0 : 0 < D) (w : World) :
    Calls Tryz.prog 112 #[wideV (enc z), wideV (enc D)] w fun r w' => r = .returned (.tuple #[wideV (enc (nrN D z)), .bool true]) ∧ Up w w' := by
  have e6 : bp 6 = bp 5 * 18446744073709551616 := bp_succ 5
  have i1 : InR (z + z) := inR_bp (k := 6) (by omega) (by omega)
  have i2 : InR (D + D) := inR_bp (k := 6) (by omega) (by omega)
  have i3 : InR (z + z + D) := inR_bp (k := 6) (by omega) (by omega)
  have h := round_z (inR_bp (by omega) hz) (inR_bp (by omega) hD) (fun _ _ h2 h3 w => divide_any (enc_natAbs h3).2 (enc_natAbs h2).2 (by omega) w) w
  rw [show roundV z D = .tuple #[wideV (enc (nrN D z)), .bool true] from by unfold roundV nrN; rw [if_pos ⟨h0, i1, i2, i3⟩]] at h
  exact h
theorem nrN_in {z D : Int} (hz : z.natAbs < bp 5) (h0 : 0 < D) : InR (nrN D z) := by
  unfold nrN
  have e6 : bp 6 = bp 5 * 18446744073709551616 := bp_succ 5
  refine inR_bp (k := 6) (by omega) ?_
  have h1 : -(2 * z.natAbs : Nat) ≤ ((2 * z + D) / (2 * D)) := by
    refine (Int.le_ediv_iff_mul_le (by omega)).2 ?_
    have h2 : -((2 * z.natAbs : Nat) : Int) * (2 * D) ≤ -((2 * z.natAbs : Nat) : Int) * 1 := Int.mul_le_mul_of_nonpos_left (by omega) (by omega)
    omega
  have h3 : ((2 * z + D) / (2 * D)) ≤ ((2 * z.natAbs + 1 : Nat) : Int) := by
    refine Int.le_of_lt_add_one ((Int.ediv_lt_iff_lt_mul (by omega)).2 ?_)
    have h2 : (((2 * z.natAbs + 1 : Nat) : Int) + 1) * D ≤ (((2 * z.natAbs + 1 : Nat) : Int) + 1) * (2 * D) := Int.mul_le_mul_of_nonneg_left (by omega) (by omega)
    have h4 : ((2 * z.natAbs : Nat) : Int) * 1 ≤ ((2 * z.natAbs : Nat) : Int) * D := Int.mul_le_mul_of_nonneg_left (by omega) (by omega)
    have h5 : (((2 * z.natAbs + 1 : Nat) : Int) + 1) * D = ((2 * z.natAbs : Nat) : Int) * D + 2 * D := by
      rw [show ((2 * z.natAbs + 1 : Nat) : Int) + 1 = ((2 * z.natAbs : Nat) : Int) + 2 by omega, Int.add_mul]
    omega
  omega
set_option maxHeartbeats 4000000 in
theorem nearest_any {z D : Int} (hz : z.natAbs < bp 5) (hD : D.natAbs < bp 5) (h0 : 0 < D) (w : World) :
    Calls Tryz.prog 73 #[.agg (fA z D)] w fun r w' => r = .returned (i64V (nrN D z)) ∧ Up w w' := by
  have HR := hid (fun w => round_any hz hD h0 w)
  have HI := hid (fun w => int64_z (nrN_in hz h0) w)
  obtain ⟨wS, hwS⟩ : ∃ x, w.alloc (.cells (fA z D) 76) = x := ⟨_, rfl⟩
  have hB : Blk wS w.heap.size 76 (fA z D) := by rw [← hwS]; exact Blk.new _ _ rfl
  have hU : Up w wS := by rw [← hwS]; exact Up.alloc _ _
  have hN := fc_num (blkF_range hB)
  have hDn := fc_den (blkF_range hB)
  rw [Nat.zero_add] at hDn
  have HN := hid hN
  have HDn := hid hDn
  obtain ⟨n, hn⟩ : ∃ n, nrN D z = n := ⟨_, rfl⟩
  rw [hn] at HR HI ⊢
  obtain ⟨y, ok, hy⟩ : ∃ y ok, i64V n = .tuple #[.int .i64 y, .bool ok] := ⟨_, _, rfl⟩
  rw [hy] at HI ⊢
  clear hn hy hN hDn hz hD h0 hB
  unfold wideV at *
  go_enter Tryz.func73, Tryz.ntmps73
  go_wp2_with (first
    | ((with_reducible apply ldW_P); exact rfl; exact rfl; (first | exact HN.out | exact HDn.out))
    | ((with_reducible apply ld_rowP undW infoW); exact rfl; exact rfl; exact gRow)
    | ((with_reducible apply st_rowP infoW); exact rfl; exact rfl; exact row_newz _ rfl
       refine wpL_folded (fun wd => Up w1 wd ∧ Row wd w1.heap.size 33 16 (limb (enc n))) ⟨gUp, gRow⟩ ?_
       rintro wL ⟨hXL, hL⟩)
    | (go_at_call 112; (with_reducible refine (HR.out _).mono ?_); rintro r w1 ⟨rfl, hu1⟩)
    | (go_at_call 86; (with_reducible refine (HI.out _).mono ?_); rintro r w2 ⟨rfl, hu2⟩))
  go_ret2
  exact ⟨rfl, (hU.trans hu1).trans (hXL.trans hu2)⟩
def nrL (n : Nat) (l x : List Int) : List Int := mk n fun i => nrN (slD n l) (slX n l x i)
def neC (N : Int) (l x : List Int) : Int := if slC N l x = 0 then (if (nrL N.toNat l x).all vfit = true then 0 else 21) else slC N l x
def neL (N : Int) (l x : List Int) : List Int := if neC N l x = 0 then nrL N.toNat l x else []
def NearPost (w : World) (N : Int) (l x : List Int) (r : Ending) (w' : World) : Prop := ∃ z u, r = .returned (.tuple #[z, u]) ∧ Up w w' ∧ Vw w' z (neL N l x) ∧ (neC N l x ≠ 0 → z = .slice none 0 0) ∧ ErrsP solveB w' u (neC N l x)
theorem vw_nil (w : World) : Vw w (.slice none 0 0) [] := ⟨_, _, rfl, ⟨Nat.le_refl _, fun _ => rfl⟩, fun _ hi => absurd hi (Nat.not_lt_zero _)⟩
set_option maxHeartbeats 16000000 in
theorem near_sol {v xv : Value} {N : Int} {l x : List Int} {w : World} (hm : Sm w v N l) (hx : Vw w xv x) (hI : In64 x) (hs : x.length ≤ 1000) :
    Calls Tryz.prog 34 #[v, xv] w (NearPost w N l x) := by
  have HEX := hid (fun w' (hu : Up w w') => exact_any (hm.up hu) (hx.up hu) hI hs)
  have HW21 := hid (fun w => swrong_any 21 (by decide) w)
  obtain ⟨px, cx, rfl, -, -⟩ := hx
  obtain ⟨s, rfl, ⟨p, cap, rfl, -, -⟩, -, -, -⟩ := hm
  obtain ⟨W0, hW0⟩ : ∃ W0, w.alloc (.cells #[.int .i64 N, .slice p l.length cap] 24) = W0 := ⟨_, rfl⟩
  have hB : Blk W0 w.heap.size 24 #[.int .i64 N, .slice p l.length cap] := by rw [← hW0]; exact Blk.new _ _ rfl
  have hU : Up w W0 := by rw [← hW0]; exact Up.alloc _ _
  unfold NearPost
  unfold ExactPost at HEX
  obtain ⟨S, hS⟩ : ∃ S, slC N l x = S := ⟨_, rfl⟩
  obtain ⟨C, hC⟩ : ∃ C, neC N l x = C := ⟨_, rfl⟩
  obtain ⟨E, hE⟩ : ∃ E, neL N l x = E := ⟨_, rfl⟩
  obtain ⟨X, hX⟩ : ∃ X, exL N l x = X := ⟨_, rfl⟩
  obtain ⟨D, hD⟩ : ∃ D, slD N.toNat l = D := ⟨_, rfl⟩
  have HS := hid hS
  have HC := hid hC
  have HE := hid hE
  have HX := hid hX
  have HD := hid hD
  rw [hS, hX, hD] at HEX
  rw [hC, hE]
  clear hS hC hE hX hD hI hs
  go_enter Tryz.func34, Tryz.ntmps34
  go_upto_region 2 with (first
    | ((with_reducible apply ldM_P); exact rfl; exact rfl; exact hB; exact rfl)
    | (go_at_call 32; (with_reducible refine (HEX.out _ hU).mono ?_); rintro r w1 ⟨z1, u1, rfl, hu1, hF1, hz1, h1⟩; obtain ⟨pz, cz, rfl⟩ := hF1.slice; have hU1 := hU.trans hu1))
  rcases h1 with ⟨h0, rfl⟩ | ⟨h0, t, y, rfl, hEr⟩
  · obtain ⟨n, rfl, hDf, hxl⟩ := slC_def (HS.out.trans h0)
    have hXe : X = slL n l x := by rw [← HX.out]; unfold exL; rw [if_pos (HS.out.trans h0)]; rfl
    have hn8 := hDf.n8
    have hln : X.length = n := by rw [hXe]; exact mk_len _ _
    have HLn := hid hln
    have hDe : D = slD n l := HD.out.symm
    have HAt := hid (fun i (hi : i < n) => show zth X i = slX n l x i from by rw [hXe]; exact mk_at hi)
    have HB5 := hid (fun i => hDf.num_bp i)
    have HDb : Hid (D.natAbs < bp 5 ∧ 0 < D) := hid (by rw [hDe]; exact ⟨hDf.den_bp, hDf.den_pos⟩)
    have hNl : (nrL n l x).length = n := mk_len _ _
    have HNl := hid hNl
    have HNt := hid (fun i (hi : i < n) => show (nrL n l x).take (i + 1) = (nrL n l x).take i ++ [nrN D (slX n l x i)] from by rw [hDe]; exact mk_take_succ (fun i => nrN (slD n l) (slX n l x i)) hi)
    have HNa := hid (fun i (hi : i < n) => show zth (nrL n l x) i = nrN D (slX n l x i) from by rw [hDe]; exact mk_at hi)
    have HC2 : Hid (C = if (nrL n l x).all vfit = true then 0 else 21) := hid (by rw [← HC.out]; unfold neC; rw [if_pos (HS.out.trans h0)]; rfl)
    have HE2 : Hid (E = if C = 0 then nrL n l x else []) := hid (by rw [← HE.out, ← HC.out]; rfl)
    rw [hln] at hz1 ⊢
    have HF1 := hid hF1
    clear hz1 hXe hln hDe hDf hxl hNl h0 hF1
    obtain ⟨R, hR⟩ : ∃ R, nrL n l x = R := ⟨_, rfl⟩
    rw [hR] at HNl HNt HNa HC2 HE2
    clear hR
    go_wp2_with fail
    clear hW0 hB hU HEX hu1
    go_loopg [8, 24] n (fun g ta ti wr => ∃ i : Nat, i ≤ n ∧ n - i ≤ g ∧ ti = .int .i64 (i : Nat) ∧ OwnI wr w1.heap.size ta (R.take i) ∧ (∀ j, j < i → vfit (zth R j) = true) ∧ Up w1 wr)
    case atStart => exact ⟨0, Nat.zero_le _, by omega, rfl, by rw [List.take_zero]; exact OwnI.nil _ _, fun j hj => absurd hj (Nat.not_lt_zero _), Up.refl _⟩
    case round =>
      obtain ⟨i, hi, hig, rfl, hO, hz, hu⟩ := hrel
      have HZ := hid hz
      clear hz
      have hszu := hu.size
      by_cases hlt : i < n
      · obtain ⟨gZ, cZ, CZ, hv, -, hBZ, htZ⟩ := HF1.out.open (by rw [HLn.out]; omega)
        rw [HLn.out] at hv
        injection hv with x1 x2 x3
        subst x1 x3
        have HRng : Hid (∀ w', Blk w' gZ 76 CZ → w'.rangeAt gZ (i * 32) (fc D (slX n l x i))) := hid (fun w' hB => HAt.out i hlt ▸ fv_range hB htZ (by rw [HLn.out]; exact hlt))
        have hBZr := hBZ.up hu
        have e1 : IntKind.i64.wrap ((i : Int) + 1) = (i : Int) + 1 := IntWalk.i64_in _ (by omega)
        have HT9 := hid (HNt.out i hlt)
        have HA9 := hid (HNa.out i hlt)
        have HTk : Hid ((R.take i).length < 1000000) := hid (by rw [List.length_take]; omega)
        have HN := hid (fun w => nearest_any (HB5.out i) HDb.out.1 HDb.out.2 w)
        clear htZ x2 hBZ
        obtain ⟨z, hz⟩ : ∃ z, slX n l x i = z := ⟨_, rfl⟩
        rw [hz] at HRng HT9 HA9 HN
        clear hz
        obtain ⟨m, hm⟩ : ∃ m, nrN D z = m := ⟨_, rfl⟩
        rw [hm] at HT9 HA9 HN
        clear hm
        by_cases hok : I64 m
        · rw [i64V_yes hok] at HN
          have HFi := hid (fun w => sfits_any hok w)
          cases hf : vfit m with
          | true =>
            rw [hf] at HFi
            have Hf := hid hf
            clear hf hok
            go_wp2_with (first
              | ((with_reducible apply ldF_P (z := z) (D := D)); exact rfl; exact rfl; (first | exact HRng.out _ hBZr | exact blkF_range hF))
              | ((with_reducible apply stF_P (z := z) (D := D)); exact rfl; exact rfl; exact Blk.new _ _ rfl; exact rfl
                 refine wpL_folded (fun wd => Up wr wd ∧ Blk wd wr.heap.size 76 (fA z D)) ⟨gUp, Blk.setRow (Blk.new _ _ rfl) _⟩ ?_
                 rintro wM ⟨hXM, hF⟩)
              | (go_at_call 73; (with_reducible refine (HN.out _).mono ?_); rintro r w2 ⟨rfl, hu2⟩)
              | (go_at_call 74; (with_reducible refine (HFi.out _).mono ?_); rintro r w3 ⟨rfl, hu3⟩)
              | ((with_reducible apply appV); exact rfl; exact rfl; exact OwnI.up (((hXM.trans hu2).trans hu3).trans (Up.alloc _ _)) hO; exact vw_one _ _; (focus (have := ((hXM.trans hu2).trans hu3).size; simp; omega)); exact HTk.out; (focus (simp; done)); rintro v6 w6 hO6 hb6))
            go_roundg (n - (i + 1))
            case measure => omega
            case rel => exact ⟨i + 1, hlt, Nat.le_refl _, rfl, by rw [HT9.out]; exact hO6, fun j hj => by
              rcases Nat.lt_succ_iff_lt_or_eq.1 hj with h | h
              · exact HZ.out j h
              · rw [h, HA9.out]; exact Hf.out, Below.trans (hu.trans (((hXM.trans hu2).trans hu3).trans (Up.alloc _ _))) hb6⟩
          | false =>
            rw [hf] at HFi
            have HC3 : Hid (C = 21) := hid (by
              rw [HC2.out]
              refine if_neg fun h => ?_
              have h1 := List.all_eq_true.1 h (zth R i) (by rw [zth_get (by rw [HNl.out]; exact hlt)]; exact List.getElem_mem _)
              rw [HA9.out, hf] at h1
              cases h1)
            have HE3 : Hid (E = []) := hid (by rw [HE2.out, HC3.out]; rfl)
            clear hf hok
            go_wp2_with (first
              | ((with_reducible apply ldF_P (z := z) (D := D)); exact rfl; exact rfl; (first | exact HRng.out _ hBZr | exact blkF_range hF))
              | ((with_reducible apply stF_P (z := z) (D := D)); exact rfl; exact rfl; exact Blk.new _ _ rfl; exact rfl
                 refine wpL_folded (fun wd => Up wr wd ∧ Blk wd wr.heap.size 76 (fA z D)) ⟨gUp, Blk.setRow (Blk.new _ _ rfl) _⟩ ?_
                 rintro wM ⟨hXM, hF⟩)
              | (go_at_call 73; (with_reducible refine (HN.out _).mono ?_); rintro r w2 ⟨rfl, hu2⟩)
              | (go_at_call 74; (with_reducible refine (HFi.out _).mono ?_); rintro r w3 ⟨rfl, hu3⟩)
              | (go_at_call 75; (with_reducible refine (HW21.out _).mono ?_); rintro r w4 ⟨u4, rfl, hu4, h4⟩))
            go_ret2
            exact ⟨_, _, rfl, (hU1.trans hu).trans (((hXM.trans hu2).trans hu3).trans hu4), by rw [HE3.out]; exact vw_nil _, fun _ => rfl, by rw [HC3.out]; exact h4⟩
        · have hf : vfit m = false := by unfold vfit; unfold I64 at hok; exact decide_eq_false (by omega)
          rw [i64V_no hok] at HN
          have HC3 : Hid (C = 21) := hid (by
            rw [HC2.out]
            refine if_neg fun h => ?_
            have h1 := List.all_eq_true.1 h (zth R i) (by rw [zth_get (by rw [HNl.out]; exact hlt)]; exact List.getElem_mem _)
            rw [HA9.out, hf] at h1
            cases h1)
          have HE3 : Hid (E = []) := hid (by rw [HE2.out, HC3.out]; rfl)
          clear hf hok
          go_wp2_with (first
            | ((with_reducible apply ldF_P (z := z) (D := D)); exact rfl; exact rfl; (first | exact HRng.out _ hBZr | exact blkF_range hF))
            | ((with_reducible apply stF_P (z := z) (D := D)); exact rfl; exact rfl; exact Blk.new _ _ rfl; exact rfl
               refine wpL_folded (fun wd => Up wr wd ∧ Blk wd wr.heap.size 76 (fA z D)) ⟨gUp, Blk.setRow (Blk.new _ _ rfl) _⟩ ?_
               rintro wM ⟨hXM, hF⟩)
            | (go_at_call 73; (with_reducible refine (HN.out _).mono ?_); rintro r w2 ⟨rfl, hu2⟩)
            | (go_at_call 75; (with_reducible refine (HW21.out _).mono ?_); rintro r w4 ⟨u4, rfl, hu4, h4⟩))
          go_ret2
          exact ⟨_, _, rfl, (hU1.trans hu).trans ((hXM.trans hu2).trans hu4), by rw [HE3.out]; exact vw_nil _, fun _ => rfl, by rw [HC3.out]; exact h4⟩
      · obtain rfl : i = n := by omega
        have hall : R.all vfit = true := List.all_eq_true.2 fun y hy => by
          obtain ⟨j, hj, rfl⟩ := List.mem_iff_getElem.1 hy
          have := HZ.out j (by rw [← HNl.out]; exact hj)
          rw [zth_get hj] at this
          exact this
        have HC3 : Hid (C = 0) := hid (by rw [HC2.out]; exact if_pos hall)
        have HE3 : Hid (E = R) := hid (by rw [HE2.out, HC3.out]; rfl)
        rw [List.take_of_length_le (by rw [HNl.out]; exact Nat.le_refl _)] at hO
        clear hall
        go_wp2_with fail
        go_ret2
        exact ⟨_, _, rfl, hU1.trans hu, by rw [HE3.out]; exact hO.vw, fun h => absurd HC3.out h, .inl ⟨HC3.out, rfl⟩⟩
  · have HC2 : Hid (C = S) := hid (by rw [← HC.out]; unfold neC; rw [HS.out]; exact if_neg h0)
    have HE2 : Hid (E = []) := hid (by rw [← HE.out]; unfold neL; rw [HC.out, HC2.out]; exact if_neg h0)
    have H0 := hid h0
    have hz := hz1 h0
    injection hz with q1 q2 q3
    clear h0 hz1
    go_wp2_with fail
    go_ret2
    exact ⟨_, _, rfl, hU1, by rw [HE2.out]; exact vw_nil _, fun _ => rfl, by rw [HC2.out]; exact .inr ⟨H0.out, t, y, rfl, hEr⟩⟩
def tmS (n : Nat) (l x : List Int) (i : Nat) : Nat → Int
  | 0 => 0
  | k + 1 => tmS n l x i k + ent n l i k * zth x k
def tmL (n : Nat) (l x : List Int) : List Int := mk n fun i => tmS n l x i n
def tmC (N : Int) (l x : List Int) : Int := if rt N l && decide ((x.length : Int) = N) then 0 else 23
def tmR (N : Int) (l x : List Int) : List Int := if tmC N l x = 0 then tmL N.toNat l x else []
theorem ent_fit {n : Nat} {l : List Int} (hR : rt n l = true) {i j : Nat} (hi : i < n) (hj : j < n) : (ent n l i j).natAbs ≤ 1073741824 := by
  obtain ⟨k, _, hk, he⟩ := idx_nat hR (show rng (n : Int) i j = true from decide_eq_true (by omega))
  have := (rt_spec hR).2.2.2 k hk
  rw [he]
  have := of_decide_eq_true this
  omega
theorem tmS_abs {n A B : Nat} {l x : List Int} {i : Nat} (hE : ∀ j : Nat, j < n → (ent n l i j).natAbs ≤ A) (hx : ∀ j, j < n → (zth x j).natAbs ≤ B) : ∀ k, k ≤ n → (tmS n l x i k).natAbs ≤ k * (A * B) := by
  intro k
  induction k with
  | zero => intro _; exact Nat.zero_le _
  | succ k ih =>
    intro hk
    have h1 := ih (by omega)
    have h5 := Nat.mul_le_mul (hE k (by omega)) (hx k (by omega))
    rw [← Int.natAbs_mul] at h5
    have h6 := Int.natAbs_add_le (tmS n l x i k) (ent n l i k * zth x k)
    show (tmS n l x i k + ent n l i k * zth x k).natAbs ≤ _
    rw [Nat.succ_mul]
    exact Nat.le_trans h6 (Nat.add_le_add h1 h5)
theorem i64_abs {z : Int} (h : I64 z) : z.natAbs ≤ 9223372036854775808 := by unfold I64 at h; omega
theorem tmS_bp {n : Nat} {l x : List Int} (hR : rt n l = true) (hx : In64 x) (hl : x.length = n) {i k : Nat} (hi : i < n) (hk : k ≤ n) (h8 : n ≤ 8) : (tmS n l x i k).natAbs < bp 2 := by
  have h1 := tmS_abs (A := 1073741824) (B := 9223372036854775808) (fun j hj => ent_fit hR hi hj) (fun j hj => i64_abs (hx j (by rw [hl]; exact hj))) k hk
  have h2 : bp 2 = 18446744073709551616 * 18446744073709551616 := by rw [bp_succ 1, bp_succ 0, bp_zero, Nat.one_mul]
  rw [h2]
  exact Nat.lt_of_le_of_lt h1 (Nat.lt_of_le_of_lt (Nat.mul_le_mul_right _ (show k ≤ 8 by omega)) (by decide))
theorem mul_bp1 {a b : Int} (ha : a.natAbs < bp 1) (hb' : b.natAbs < bp 1) : (a * b).natAbs < bp 2 := by
  rw [Int.natAbs_mul, show bp 2 = bp 1 * bp 1 from by rw [← bp_add]]
  exact Nat.mul_lt_mul_of_lt_of_lt ha hb'
theorem vw_two (w : World) (a b : Int) : Vw (w.alloc (.cells #[.int .i64 a, .int .i64 b] 2)) (.slice (some ⟨w.heap.size, 0, none⟩) 2 2) [a, b] := by
  refine ⟨_, 2, rfl, ⟨Nat.le_refl _, fun e => by cases e⟩, fun i hi => ⟨_, rfl, ?_⟩⟩
  rcases i with _ | _ | i
  · simp [zth, Addr.add]
  · simp [zth, Addr.add]
  · simp at hi; omega
theorem tmL_succ (n : Nat) (l x : List Int) {i : Nat} (hi : i < n) : (tmL n l x).take (i + 1) = (tmL n l x).take i ++ [tmS n l x i n] := by
  have hl : (tmL n l x).length = n := mk_len _ _
  rw [List.take_add_one, List.getElem?_eq_getElem (by omega)]
  have : (tmL n l x)[i]'(by omega) = tmS n l x i n := by
    have := mk_at (f := fun i => tmS n l x i n) hi
    rw [zth_get (by rw [mk_len]; exact hi)] at this
    exact this
  rw [this]
  rfl
def WidesPost (w : World) (l : List Int) (e : Int) (r : Ending) (w' : World) : Prop := ∃ z u, r = .returned (.tuple #[z, u]) ∧ Up w w' ∧ Wv w' z l ∧ Errs w' u e
theorem wv_nil (w : World) : Wv w (.slice none 0 0) [] := .inl ⟨rfl, none, 0, rfl⟩
set_option maxHeartbeats 8000000 in
theorem times_w {v xv : Value} {N : Int} {l x : List Int} {w : World} (hm : Sm w v N l) (hh : Vw w xv x) (hI : In64 x) (hh3 : x.length ≤ 1000) :
    Calls Tryz.prog 82 #[v, xv] w (WidesPost w (tmR N l x) (tmC N l x)) := by
  have HR := hid (fun w' (hu : Up w w') => sright_any (hm.up hu))
  have HWR := hid wrong_any
  obtain ⟨s, rfl, hV, hN, hl, hlen⟩ := hm
  have HVl := hid hV
  obtain ⟨p, cap, rfl, hcap, hc⟩ := hV
  have HH := hid hh
  obtain ⟨q, cq, rfl, _⟩ := hh
  obtain ⟨W0, hW0⟩ : ∃ W0, w.alloc (.cells #[.int .i64 N, .slice p l.length cap] 24) = W0 := ⟨_, rfl⟩
  have hB : Blk W0 w.heap.size 24 #[.int .i64 N, .slice p l.length cap] := by rw [← hW0]; exact Blk.new _ _ rfl
  have hU : Up w W0 := by rw [← hW0]; exact Up.alloc _ _
  cases hR : rt N l with
  | false =>
    have e : tmC N l x = 23 := by unfold tmC; rw [hR]; rfl
    have e2 : tmR N l x = [] := by unfold tmR; rw [e]; rfl
    rw [e, e2]
    rw [hR] at HR
    clear e e2 hR hc hl hN hI
    go_enter Tryz.func82, Tryz.ntmps82
    go_wp2_with (first
      | ((with_reducible apply ldM_P); exact rfl; exact rfl; exact hB; exact rfl)
      | (go_at_call 52; (with_reducible refine (HR.out _ hU).mono ?_); rintro r w1 ⟨rfl, hu1⟩)
      | (go_at_call 116; (with_reducible refine (HWR.out _ _).mono ?_); rintro r w2 ⟨t2, u2, rfl, hu2, h2⟩))
    go_ret2
    exact ⟨_, _, rfl, (hU.trans hu1).trans hu2, wv_nil _, Errs.some_ (by decide) h2⟩
  | true =>
    rw [hR] at HR
    by_cases hn0 : (x.length : Int) = N
    · obtain ⟨n, rfl⟩ : ∃ n : Nat, N = (n : Int) := ⟨x.length, hn0.symm⟩
      have hxn : x.length = n := by omega
      obtain ⟨_, n8, htri, _⟩ := rt_spec hR
      have e : tmC n l x = 0 := by unfold tmC; rw [hR, decide_eq_true hn0]; rfl
      have e2 : tmR n l x = tmL n l x := by unfold tmR; rw [e, if_pos rfl]; rfl
      rw [e, e2]
      have d3 : ((x.length : Int) != (n : Int)) = false := by rw [hn0]; simp
      have HIX := hid (fun (i j : Nat) (hi : i < n) (hj : j < n) => idx_nat hR (show rng (n : Int) i j = true from decide_eq_true (by omega)))
      have HX := hid (fun (i j : Nat) (hi : i < n) (hj : j < n) w => idx_any (n : Int) (i : Int) (j : Int) n8 (by omega) (by omega) (by omega) (by omega) w)
      have HCell := hid (fun w' (hu : Up w w') (k : Nat) (hk : k < l.length) => show ∃ a, p = some a ∧ w'.cell? (a.add k) = some (.int .i64 (zth l k)) from by obtain ⟨a, h1, h2⟩ := hc k hk; exact ⟨a, h1, hu.cellEq h2⟩)
      have HS := hid (fun i k (hi : i < n) (hk : k ≤ n) => tmS_bp hR hI hxn hi hk (by omega))
      have HI64 := hid hI
      have Hl64 := hid hl
      have HTL := hid (fun i (hi : i < n) => tmL_succ n l x hi)
      have hTl : (tmL n l x).length = n := mk_len _ _
      have HTl := hid hTl
      have hn8 : n ≤ 8 := by omega
      have hxl9 := hxn
      clear e e2 hR hc hl hN hI hn0 htri hTl n8
      obtain ⟨T, hT⟩ : ∃ T, tmL n l x = T := ⟨_, rfl⟩
      rw [hT] at HTL HTl ⊢
      clear hT
      go_enter Tryz.func82, Tryz.ntmps82
      go_wp2_with (first
        | ((with_reducible apply ldM_P); exact rfl; exact rfl; exact hB; exact rfl)
        | (go_at_call 52; (with_reducible refine (HR.out _ hU).mono ?_); rintro r w1 ⟨rfl, hu1⟩; replace hB := hB.up hu1; replace hU := hU.trans hu1; have hc0 := hB.cell 0 rfl))
      obtain ⟨wS, rfl⟩ : ∃ y, y = w1 := ⟨_, rfl⟩
      clear hc0 hu1 hW0
      go_loopg [6, 23] n (fun g ta ti wr => ∃ i : Nat, i ≤ n ∧ n - i ≤ g ∧ ti = .int .i64 (i : Nat) ∧ OwnW wr wS.heap.size ta (T.take i) ∧ Up wS wr)
      case atStart => exact ⟨0, Nat.zero_le _, by omega, rfl, by rw [List.take_zero]; exact OwnW.nil _ _, Up.refl _⟩
      case round =>
        obtain ⟨i, hi, hig, rfl, hO, hu⟩ := hrel
        by_cases hlt : i < n
        · have e1 : IntKind.i64.wrap ((i : Int) + 1) = (i : Int) + 1 := IntWalk.i64_in _ (by omega)
          obtain ⟨wI, hwI⟩ : ∃ y, wr.alloc (.cells (cells 16 (fun _ => 0)) 33) = y := ⟨_, rfl⟩
          have hRow0 : Row wI wr.heap.size 33 16 (limb (enc (tmS n l x i 0))) := by
            rw [← hwI]; show Blk _ _ _ (cells 16 (limb (enc 0))); rw [← zero_limb]; exact Blk.new _ _ rfl
          have hUI : Up wr wI := by rw [← hwI]; exact Up.alloc _ _
          rw [← zeros16] at hwI
          have hc0 := (hB.up (hu.trans hUI)).cell 0 rfl
          go_wp2_with fail
          obtain ⟨bS, hbS⟩ : ∃ y, wr.heap.size = y := ⟨_, rfl⟩
          rw [hbS] at hRow0 ⊢
          clear hwI hc0
          obtain ⟨wO, hwO⟩ : ∃ y, wr = y := ⟨_, rfl⟩
          rw [hwO] at hO hu hUI hbS
          clear hwO
          go_loopg [28] n (fun g tj wr => ∃ j : Nat, j ≤ n ∧ n - j ≤ g ∧ tj = .int .i64 (j : Nat) ∧ Row wr bS 33 16 (limb (enc (tmS n l x i j))) ∧ Up wO wr)
          case atStart => exact ⟨0, Nat.zero_le _, by omega, rfl, hRow0, hUI⟩
          case round =>
            clear hRow0 hUI
            obtain ⟨j, hj, hjg, rfl, hRow, huj⟩ := hrel
            have hBj := hB.up (hu.trans huj)
            have hc0 := hBj.cell 0 rfl
            by_cases hjlt : j < n
            · have e2 : IntKind.i64.wrap ((j : Int) + 1) = (j : Int) + 1 := IntWalk.i64_in _ (by omega)
              obtain ⟨k, hk, hkl, hke⟩ := HIX.out i j hlt hjlt
              have HXk := hid (fun w => hk ▸ HX.out i j hlt hjlt w)
              obtain ⟨ad, rfl, -⟩ := HCell.out _ (Up.refl w) k hkl
              have hjx : j < x.length := by omega
              obtain ⟨q', cq', xq, _, hcq⟩ := HH.out
              injection xq with y1 y2 y3
              subst y1 y3
              obtain ⟨adx, rfl, -⟩ := hcq j hjx
              have HAd := hid (fun w' (hu : Up w w') => (show w'.cell? (adx.add j) = some (.int .i64 (zth x j)) from by obtain ⟨a2, z1, z2⟩ := hcq j hjx; injection z1 with z1; subst z1; exact hu.cellEq z2))
              have HAl := hid (fun w' (hu : Up w w') => (show w'.cell? (ad.add k) = some (.int .i64 (zth l k)) from by obtain ⟨a2, z1, z2⟩ := HCell.out w' hu k hkl; injection z1 with z1; subst z1; exact z2))
              have hak := Hl64.out k hkl
              have hxj := HI64.out j hjx
              have h64 : In64 [zth l k, zth x j] := by
                intro q hq
                rcases q with _ | _ | q
                · exact hak
                · exact hxj
                · simp at hq; omega
              have epr : prodL [zth l k, zth x j] = zth l k * zth x j := by simp [prodL]
              have HPr := hid (fun v w (hv : Vw w v [zth l k, zth x j]) => epr ▸ product_any hv h64 (show 2 ≤ 10 by decide))
              have eS : tmS n l x i (j + 1) = tmS n l x i j + zth l k * zth x j := by rw [← hke]; rfl
              have hS1 := HS.out i j hlt hj
              have hS2 := HS.out i (j + 1) hlt hjlt
              have hprb : (zth l k * zth x j).natAbs < bp 2 := mul_bp1 (i64_bp hak) (i64_bp hxj)
              have HPl := hid (fun w => plus_sum (w := w) (inR_bp (k := 2) (by omega) hS1) (inR_bp (k := 2) (by omega) hprb) (by rw [← eS]; exact inR_bp (k := 2) (by omega) hS2))
              rw [← eS] at HPl
              clear hcq hk hke hak hxj h64 epr eS hS1 hS2 hprb y2
              unfold wideV at *
              obtain ⟨S2, hS29⟩ : ∃ y, tmS n l x i (j + 1) = y := ⟨_, rfl⟩
              have HS2 := hid hS29
              rw [hS29] at HPl
              clear hS29
              generalize tmS n l x i j = S1 at *
              obtain ⟨pr, hpr⟩ : ∃ z, zth l k * zth x j = z := ⟨_, rfl⟩
              rw [hpr] at HPr HPl
              clear hpr
              generalize zth l k = ak at *
              generalize zth x j = xj at *
              go_wp2_with fail
              refine wp_region_sp (n := 55) 17 [31, 32, 33, 34, 35, 36, 37, 38, 39, 40, 41, 42, 43, 44, 45, 46, 47] [SP.is (.agg (cells 16 (limb (enc S1)))), SP.is (.pointer (some ⟨w.heap.size, 1, none⟩)), SP.is (.slice (some ad) l.length cap), SP.is (.pointer (some ⟨w.heap.size, 0, none⟩)), SP.is (.int .i64 (n : Nat)), SP.is (.int .i64 (i : Nat)), SP.is (.int .i64 (j : Nat)), SP.is (.int .i64 (k : Nat)), SP.is (.pointer (some (ad.add k))), SP.is (.int .i64 ak), SP.is (.slice (some adx) x.length cq), SP.is (.int .i64 (j : Nat)), SP.is (.pointer (some (adx.add j))), SP.is (.int .i64 xj), SP.of (fun v w1 => Vw w1 v [ak, xj]) (fun _ _ _ h hu => Vw.up hu h), SP.is (.agg (cells 16 (limb (enc pr)))), SP.is (.agg (cells 16 (limb (enc S2)))), SP.any] (fun wq => Up wr wq ∧ Row wq bS 33 16 (limb (enc S1)) ∧ Below w.heap.size w wq) (by kernel_rfl) (by rfl) (by kernel_rfl) (by kernel_rfl) (fun _ _ h hu => ⟨(h.1).trans hu, (h.2.1).up hu, below_up (h.2.2) hu⟩) ⟨(by first | exact Up.refl _ | assumption), (by assumption), gUp⟩ (fun ev w9 hS9 i o hne hi hev => ?_) (fun gR wE hq hSE huE => ?_)
              · have ⟨hS1, hS2, hSB⟩ := hS9
                have hcC := hev.const
                have hcF := hev.func
                have hcG := hev.global
                rcases i with _ | _ | _ | _ | _ | _ | _ | _ | _ | _ | _ | _ | _ | _ | _ | _ | _ | _ | i
                · obtain rfl := Option.some.inj (show some _ = some o from hi)
                  have e8 := hev.other 8 (by kernel_rfl)
                  simp [Act.eval] at e8
                  exact leavesR_value (run_ldE undW infoW rfl e8 hS2) rfl
                · obtain rfl := Option.some.inj (show some _ = some o from hi)
                  have e2 := hev.other 2 (by kernel_rfl)
                  simp [Act.eval] at e2
                  exact leavesR_value (u := .pointer (some ⟨w.heap.size, 1, none⟩)) (by first | (go_simp; done) | (go_simp; exact rfl)) rfl
                · obtain rfl := Option.some.inj (show some _ = some o from hi)
                  have e32 : ev (.tmp 32) = (.pointer (some ⟨w.heap.size, 1, none⟩)) := hev.dep 1 32 (by kernel_rfl)
                  have hcx := (hBj.up hS1).cell 1 rfl; exact leavesR_value (u := .slice (some ad) l.length cap) (by go_simp) rfl
                · obtain rfl := Option.some.inj (show some _ = some o from hi)
                  have e2 := hev.other 2 (by kernel_rfl)
                  simp [Act.eval] at e2
                  exact leavesR_value (u := .pointer (some ⟨w.heap.size, 0, none⟩)) (by first | (go_simp; done) | (go_simp; exact rfl)) rfl
                · obtain rfl := Option.some.inj (show some _ = some o from hi)
                  have e34 : ev (.tmp 34) = (.pointer (some ⟨w.heap.size, 0, none⟩)) := hev.dep 3 34 (by kernel_rfl)
                  have hcx := (hBj.up hS1).cell 0 rfl; exact leavesR_value (u := .int .i64 (n : Nat)) (by go_simp) rfl
                · obtain rfl := Option.some.inj (show some _ = some o from hi)
                  have e7 := hev.other 7 (by kernel_rfl)
                  simp [Act.eval] at e7
                  exact leavesR_value (u := .int .i64 (i : Nat)) (by first | (go_simp; done) | (go_simp; exact rfl)) rfl
                · obtain rfl := Option.some.inj (show some _ = some o from hi)
                  have e9 := hev.other 9 (by kernel_rfl)
                  simp [Act.eval] at e9
                  exact leavesR_value (u := .int .i64 (j : Nat)) (by first | (go_simp; done) | (go_simp; exact rfl)) rfl
                · obtain rfl := Option.some.inj (show some _ = some o from hi)
                  have e35 : ev (.tmp 35) = (.int .i64 (n : Nat)) := hev.dep 4 35 (by kernel_rfl)
                  have e36 : ev (.tmp 36) = (.int .i64 (i : Nat)) := hev.dep 5 36 (by kernel_rfl)
                  have e37 : ev (.tmp 37) = (.int .i64 (j : Nat)) := hev.dep 6 37 (by kernel_rfl)
                  refine leavesR_call ?_ ((HXk.out _).mono fun _ _ h => ⟨by rw [h.2]; exact Up.refl _, _, h.1, rfl⟩)
                  go_simp
                · obtain rfl := Option.some.inj (show some _ = some o from hi)
                  have e33 : ev (.tmp 33) = (.slice (some ad) l.length cap) := hev.dep 2 33 (by kernel_rfl)
                  have e38 : ev (.tmp 38) = (.int .i64 (k : Nat)) := hev.dep 7 38 (by kernel_rfl)
                  exact leavesR_value (u := .pointer (some (ad.add k))) (by first | (go_simp; done) | (go_simp; exact rfl)) rfl
                · obtain rfl := Option.some.inj (show some _ = some o from hi)
                  have e39 : ev (.tmp 39) = (.pointer (some (ad.add k))) := hev.dep 8 39 (by kernel_rfl)
                  have hcx := HAl.out w9 (hU.trans (hu.trans (huj.trans hS1))); exact leavesR_value (u := .int .i64 ak) (by go_simp) rfl
                · obtain rfl := Option.some.inj (show some _ = some o from hi)
                  have e1 := hev.other 1 (by kernel_rfl)
                  simp [Act.eval] at e1
                  exact leavesR_value (u := .slice (some adx) x.length cq) (by first | (go_simp; done) | (go_simp; exact rfl)) rfl
                · obtain rfl := Option.some.inj (show some _ = some o from hi)
                  have e9 := hev.other 9 (by kernel_rfl)
                  simp [Act.eval] at e9
                  exact leavesR_value (u := .int .i64 (j : Nat)) (by first | (go_simp; done) | (go_simp; exact rfl)) rfl
                · obtain rfl := Option.some.inj (show some _ = some o from hi)
                  have e41 : ev (.tmp 41) = (.slice (some adx) x.length cq) := hev.dep 10 41 (by kernel_rfl)
                  have e42 : ev (.tmp 42) = (.int .i64 (j : Nat)) := hev.dep 11 42 (by kernel_rfl)
                  exact leavesR_value (u := .pointer (some (adx.add j))) (by first | (go_simp; done) | (go_simp; exact rfl)) rfl
                · obtain rfl := Option.some.inj (show some _ = some o from hi)
                  have e43 : ev (.tmp 43) = (.pointer (some (adx.add j))) := hev.dep 12 43 (by kernel_rfl)
                  have hcx := HAd.out w9 (hU.trans (hu.trans (huj.trans hS1))); exact leavesR_value (u := .int .i64 xj) (by go_simp) rfl
                · obtain rfl := Option.some.inj (show some _ = some o from hi)
                  have e40 : ev (.tmp 40) = (.int .i64 ak) := hev.dep 9 40 (by kernel_rfl)
                  have e44 : ev (.tmp 44) = (.int .i64 xj) := hev.dep 13 44 (by kernel_rfl)
                  exact leavesR_up (u := .slice (some ⟨w9.heap.size, 0, none⟩) 2 2) (w' := w9.alloc (.cells #[.int .i64 ak, .int .i64 xj] 2)) (by go_simp) (Up.alloc _ _) (vw_two w9 ak xj)
                · obtain rfl := Option.some.inj (show some _ = some o from hi)
                  have e45 : (fun v w1 => Vw w1 v [ak, xj]) (ev (.tmp 45)) w9 := hev.dep 14 45 (by kernel_rfl)
                  dsimp only at e45
                  obtain ⟨v45, hv45⟩ : ∃ v, ev (.tmp 45) = v := ⟨_, rfl⟩
                  rw [hv45] at e45
                  refine leavesR_call ?_ ((HPr.out _ _ e45).mono fun _ _ h => ⟨h.2, _, h.1, rfl⟩)
                  go_simp
                · obtain rfl := Option.some.inj (show some _ = some o from hi)
                  have e31 : ev (.tmp 31) = (.agg (cells 16 (limb (enc S1)))) := hev.dep 0 31 (by kernel_rfl)
                  have e46 : ev (.tmp 46) = (.agg (cells 16 (limb (enc pr)))) := hev.dep 15 46 (by kernel_rfl)
                  refine leavesR_call ?_ ((HPl.out _).mono fun _ _ h => ⟨h.2, _, h.1, rfl⟩)
                  go_simp
                · exact absurd rfl hne
                · exact absurd (show i + 18 < 18 from (Array.getElem?_eq_some_iff.1 hi).1) (by omega)
              have ⟨hS1, hS2, hSB⟩ := hSE
              have q0 : gR 31 = (.agg (cells 16 (limb (enc S1)))) := hq 0 31 (by decide) (by kernel_rfl)
              have q1 : gR 32 = (.pointer (some ⟨w.heap.size, 1, none⟩)) := hq 1 32 (by decide) (by kernel_rfl)
              have q2 : gR 33 = (.slice (some ad) l.length cap) := hq 2 33 (by decide) (by kernel_rfl)
              have q3 : gR 34 = (.pointer (some ⟨w.heap.size, 0, none⟩)) := hq 3 34 (by decide) (by kernel_rfl)
              have q4 : gR 35 = (.int .i64 (n : Nat)) := hq 4 35 (by decide) (by kernel_rfl)
              have q5 : gR 36 = (.int .i64 (i : Nat)) := hq 5 36 (by decide) (by kernel_rfl)
              have q6 : gR 37 = (.int .i64 (j : Nat)) := hq 6 37 (by decide) (by kernel_rfl)
              have q7 : gR 38 = (.int .i64 (k : Nat)) := hq 7 38 (by decide) (by kernel_rfl)
              have q8 : gR 39 = (.pointer (some (ad.add k))) := hq 8 39 (by decide) (by kernel_rfl)
              have q9 : gR 40 = (.int .i64 ak) := hq 9 40 (by decide) (by kernel_rfl)
              have q10 : gR 41 = (.slice (some adx) x.length cq) := hq 10 41 (by decide) (by kernel_rfl)
              have q11 : gR 42 = (.int .i64 (j : Nat)) := hq 11 42 (by decide) (by kernel_rfl)
              have q12 : gR 43 = (.pointer (some (adx.add j))) := hq 12 43 (by decide) (by kernel_rfl)
              have q13 : gR 44 = (.int .i64 xj) := hq 13 44 (by decide) (by kernel_rfl)
              have q14 : (fun v w1 => Vw w1 v [ak, xj]) (gR 45) wE := hq 14 45 (by decide) (by kernel_rfl)
              dsimp only at q14
              obtain ⟨v45, hv45⟩ : ∃ v, gR 45 = v := ⟨_, rfl⟩
              rw [hv45] at q14
              have q15 : gR 46 = (.agg (cells 16 (limb (enc pr)))) := hq 15 46 (by decide) (by kernel_rfl)
              have q16 : gR 47 = (.agg (cells 16 (limb (enc S2)))) := hq 16 47 (by decide) (by kernel_rfl)
              refine ⟨fun h => absurd h (by decide), fun o ho => ?_⟩
              obtain rfl := Option.some.inj (show some _ = some o from ho)
              simp only [putL, List.map_cons, List.map_nil, q0, q1, q2, q3, q4, q5, q6, q7, q8, q9, q10, q11, q12, q13, hv45, q15, q16, Act.put, pu1, pu2, pu3]
              clear hq hSE q0 q1 q2 q3 q4 q5 q6 q7 q8 q9 q10 q11 q12 q13 q15 q16
              refine wp_st_rowN infoW rfl _ _ rfl _ rfl rfl hS2 ?_
              have hR9 := hS2.setRow (limb (enc S2))
              have hu9 := (huj.trans hS1)
              have hU9 := below_setRow hu9 (show wO.heap.size ≤ bS by omega) (cells 16 (limb (enc S2)))
              obtain ⟨wK, hwK⟩ : ∃ y, wE.setRow bS (cells 16 (limb (enc S2))) = y := ⟨_, rfl⟩
              rw [hwK] at hR9 hU9 ⊢
              clear hwK hS1 hS2 hSB huE hu9 q14
              go_wp2_with fail
              go_roundg (n - (j + 1))
              case measure => omega
              case rel => exact ⟨j + 1, hjlt, Nat.le_refl _, rfl, by rw [HS2.out]; exact hR9, hU9⟩
            · obtain rfl : j = n := by omega
              have hTs := HTL.out i hlt
              have HT9 := hid hTs
              have hszj := huj.size
              have hszu := hu.size
              have HTk : Hid ((T.take i).length < 1000000) := hid (by rw [List.length_take, HTl.out]; omega)
              clear hTs
              generalize tmS j l x i j = S at *
              go_wp2_with (first
                | ((with_reducible apply ld_rowP undW infoW); exact rfl; exact rfl; exact gRow)
                | ((with_reducible apply bsW_P); exact rfl)
                | ((with_reducible apply appW (l := T.take i) (m := [S])); exact rfl; exact rfl; exact OwnW.up (huj.trans (Up.alloc _ _)) hO; exact one_range rfl; (focus (simp; omega)); exact HTk.out; (focus (simp; done)); rintro v6 w6 hO6 - hb6))
              go_roundg (j - (i + 1))
              case measure => omega
              case rel => exact ⟨i + 1, hlt, Nat.le_refl _, rfl, by rw [HT9.out]; exact hO6, Below.trans ((hu.trans huj).trans (Up.alloc _ _)) hb6⟩
        · obtain rfl : i = n := by omega
          rw [← HTl.out, List.take_length] at hO
          go_wp2_with fail
          go_ret2
          exact ⟨_, _, rfl, hU.trans hu, hO.wv, Errs.none_ _⟩
    · have e : tmC N l x = 23 := by unfold tmC; rw [hR, decide_eq_false hn0]; rfl
      have e2 : tmR N l x = [] := by unfold tmR; rw [e]; rfl
      rw [e, e2]
      have d3 : ((x.length : Int) != N) = true := by simpa using hn0
      clear e e2 hR hc hl hN hI hn0
      go_enter Tryz.func82, Tryz.ntmps82
      go_wp2_with (first
        | ((with_reducible apply ldM_P); exact rfl; exact rfl; exact hB; exact rfl)
        | (go_at_call 52; (with_reducible refine (HR.out _ hU).mono ?_); rintro r w1 ⟨rfl, hu1⟩; replace hB := hB.up hu1; have hc0 := hB.cell 0 rfl)
        | (go_at_call 116; (with_reducible refine (HWR.out _ _).mono ?_); rintro r w2 ⟨t2, u2, rfl, hu2, h2⟩))
      go_ret2
      exact ⟨_, _, rfl, (hU.trans hu1).trans hu2, wv_nil _, Errs.some_ (by decide) h2⟩
def rsM (n : Nat) (l x v : List Int) : Nat → Int
  | 0 => 0
  | i + 1 => if rsM n l x v i < ((tmS n l x i n - zth v i).natAbs : Nat) then ((tmS n l x i n - zth v i).natAbs : Nat) else rsM n l x v i
theorem rsM_bp {n : Nat} {l x v : List Int} (h1 : ∀ i, i < n → (tmS n l x i n).natAbs < bp 2) (h2 : ∀ i, i < n → I64 (zth v i)) : ∀ i, i ≤ n → 0 ≤ rsM n l x v i ∧ (rsM n l x v i).natAbs < bp 3 := by
  have e3 : bp 3 = bp 2 * 18446744073709551616 := bp_succ 2
  have e2 : bp 2 = bp 1 * 18446744073709551616 := bp_succ 1
  have e1 : bp 1 = bp 0 * 18446744073709551616 := bp_succ 0
  rw [bp_zero] at e1
  intro i
  induction i with
  | zero => intro _; exact ⟨Int.le_refl _, by show 0 < _; omega⟩
  | succ i ih =>
    intro hi
    have h3 := ih (by omega)
    have h4 := h1 i (by omega)
    have h5 := h2 i (by omega)
    unfold I64 at h5
    unfold rsM
    split <;> omega
def rsC (N : Int) (l x v : List Int) : Int := if ftC N l [x, v] = 0 then (if rsM N.toNat l x v N.toNat < 9223372036854775808 then 0 else 21) else ftC N l [x, v]
def rsV (N : Int) (l x v : List Int) : Int := if rsC N l x v = 0 then rsM N.toNat l x v N.toNat else 0
def ResPost (w : World) (N : Int) (l x v : List Int) (r : Ending) (w' : World) : Prop := ∃ u, r = .returned (.tuple #[.int .i64 (rsV N l x v), u]) ∧ Up w w' ∧ ErrsP solveB w' u (rsC N l x v)
theorem lv_two {w : World} {v1 v2 : Value} {l1 l2 : List Int} (h1 : Vw w v1 l1) (h2 : Vw w v2 l2) : Lv (w.alloc (.cells #[v1, v2] 22)) (.slice (some ⟨w.heap.size, 0, none⟩) 2 2) [l1, l2] :=
  ⟨_, _, rfl, fun i hi => by
    rcases i with _ | _ | i
    · exact ⟨_, v1, rfl, (Blk.new _ _ rfl).cell 0 rfl, h1.up (Up.alloc _ _)⟩
    · exact ⟨_, v2, rfl, (Blk.new _ _ rfl).cell 1 rfl, h2.up (Up.alloc _ _)⟩
    · simp at hi; omega⟩
theorem ftC_two {N : Int} {l x v : List Int} (h : ftC N l [x, v] = 0) : ∃ n : Nat, N = (n : Int) ∧ rt n l = true ∧ x.length = n ∧ v.length = n := by
  unfold ftC at h
  by_cases h2 : rt N l = true ∧ ∀ i, i < [x, v].length → (([x, v].getD i []).length : Int) = N
  · obtain ⟨n0, n8, _, _⟩ := rt_spec h2.1
    obtain ⟨n, rfl⟩ : ∃ n : Nat, N = (n : Int) := ⟨N.toNat, by omega⟩
    have a1 := h2.2 0 (by simp)
    have a2 := h2.2 1 (by simp)
    simp at a1 a2
    exact ⟨n, rfl, h2.1, by omega, by omega⟩
  · rw [if_neg h2] at h; omega
set_option maxHeartbeats 16000000 in
theorem residual_any {mv xv vv : Value} {N : Int} {l x v : List Int} {w : World} (hm : Sm w mv N l) (hx : Vw w xv x) (hv : Vw w vv v) (hIx : In64 x) (hIv : In64 v) (hsx : x.length ≤ 1000) (hsv : v.length ≤ 1000) :
    Calls Tryz.prog 43 #[mv, xv, vv] w (ResPost w N l x v) := by
  have HF := hid (fun w' (hu : Up w w') => fitting_any (hm.up (hu.trans (Up.alloc w' (.cells #[xv, vv] 22)))) (lv_two (hx.up hu) (hv.up hu)) (fun i => by rcases i with _ | _ | i; exact hIx; exact hIv; exact fun j hj => absurd hj (Nat.not_lt_zero _)) (fun i => by rcases i with _ | _ | i; exact hsx; exact hsv; exact Nat.zero_le _) (by simp))
  have HT := hid (fun w' (hu : Up w w') => times_w (hm.up hu) (hx.up hu) hIx hsx)
  have HW21 := hid (fun w => swrong_any 21 (by decide) w)
  have HV := hid hv
  have HIX := hid hIx
  have HIV := hid hIv
  obtain ⟨px, cx, rfl, -, -⟩ := hx
  obtain ⟨pv, cv, rfl, -, -⟩ := hv
  obtain ⟨s, rfl, ⟨p, cap, rfl, -, -⟩, -, -, -⟩ := hm
  obtain ⟨W0, hW0⟩ : ∃ W0, w.alloc (.cells #[.int .i64 N, .slice p l.length cap] 24) = W0 := ⟨_, rfl⟩
  have hB : Blk W0 w.heap.size 24 #[.int .i64 N, .slice p l.length cap] := by rw [← hW0]; exact Blk.new _ _ rfl
  have hU : Up w W0 := by rw [← hW0]; exact Up.alloc _ _
  have HFW := hid (HF.out W0 hU)
  have hBa := hB.up (Up.alloc W0 (.cells #[.slice px x.length cx, .slice pv v.length cv] 22))
  have hUa := hU.trans (Up.alloc W0 (.cells #[.slice px x.length cx, .slice pv v.length cv] 22))
  unfold ResPost
  unfold WidesPost at HT
  obtain ⟨F, hF⟩ : ∃ F, ftC N l [x, v] = F := ⟨_, rfl⟩
  obtain ⟨C, hC⟩ : ∃ C, rsC N l x v = C := ⟨_, rfl⟩
  obtain ⟨V, hVv⟩ : ∃ V, rsV N l x v = V := ⟨_, rfl⟩
  have HFF := hid hF
  have HC := hid hC
  have HVv := hid hVv
  rw [hF] at HFW
  rw [hC, hVv]
  clear hF hC hVv HF hIx hIv hsx hsv
  go_enter Tryz.func43, Tryz.ntmps43
  go_upto_region 2 with (first
    | ((with_reducible apply ldM_P); exact rfl; exact rfl; exact hB; exact rfl)
    | (go_at_call 81; (with_reducible refine HFW.out.mono ?_); rintro r w1 ⟨u1, rfl, hu1, h1⟩; have hB1 := hBa.up hu1; have hU1 := hUa.trans hu1))
  rcases h1 with ⟨h0, rfl⟩ | ⟨h0, t, y, rfl, hE⟩
  · obtain ⟨n, rfl, hR, hxl, hvl⟩ := ftC_two (HFF.out.trans h0)
    have hn8 : n ≤ 8 := by have := (rt_spec hR).2.1; omega
    have etc : tmC (n : Int) l x = 0 := by unfold tmC; rw [hR, decide_eq_true (by omega)]; rfl
    have etr : tmR (n : Int) l x = tmL n l x := by unfold tmR; rw [if_pos etc]; rfl
    rw [etc, etr] at HT
    have hTl : (tmL n l x).length = n := mk_len _ _
    have HTl := hid hTl
    have HTa := hid (fun i (hi : i < n) => show zth (tmL n l x) i = tmS n l x i n from mk_at hi)
    have HTb := hid (fun i (hi : i < n) => tmS_bp hR HIX.out hxl hi (Nat.le_refl n) hn8)
    have HVi := hid (fun i (hi : i < n) => HIV.out i (by omega))
    have HRb := hid (rsM_bp HTb.out HVi.out)
    have HC2 : Hid (C = if rsM n l x v n < 9223372036854775808 then 0 else 21) := hid (by rw [← HC.out]; unfold rsC; rw [if_pos (HFF.out.trans h0)]; rfl)
    have HV2 : Hid (V = if C = 0 then rsM n l x v n else 0) := hid (by rw [← HVv.out, ← HC.out]; rfl)
    have HOV := hid (fun i (hi : i < n) w => of_any (zth v i) (HVi.out i hi).1 (HVi.out i hi).2 w)
    have HVL := hid hvl
    rw [hxl] at HT
    rw [hxl, hvl]
    rw [hvl] at HV
    clear etc etr hTl hR hxl hvl h0 hW0 hB hBa hUa hu1 hU HFW
    unfold wideV at *
    go_wp2_with (first
      | ((with_reducible apply ldM_P); exact rfl; exact rfl; exact hB1; exact rfl)
      | (go_at_call 82; (with_reducible refine (HT.out _ hU1).mono ?_); rintro r w2 ⟨z2, u2, rfl, hu2, hW2, he2⟩; obtain rfl := he2.elim (fun h => h.2) (fun h => absurd rfl h.1); obtain ⟨pz, cz, rfl⟩ := hW2.slice; have hU2 := hU1.trans hu2
         rw [HTl.out]
         obtain ⟨wI, hwI⟩ : ∃ y, w2.alloc (.cells (cells 16 (fun _ => 0)) 33) = y := ⟨_, rfl⟩
         have hG0 : Row wI w2.heap.size 33 16 (limb (enc 0)) := by rw [← hwI]; show Blk _ _ _ (cells 16 (limb (enc 0))); rw [← zero_limb]; exact Blk.new _ _ rfl
         have hUI : Up w2 wI := by rw [← hwI]; exact Up.alloc _ _
         rw [← zeros16] at hwI))
    obtain ⟨bG, hbG⟩ : ∃ y, w2.heap.size = y := ⟨_, rfl⟩
    rw [hbG] at hG0 ⊢
    rw [HTl.out] at hW2
    have HW2 := hid hW2
    clear hW2 hwI hu2 he2 hB1
    go_loopg [37] n (fun g ti wr => ∃ i : Nat, i ≤ n ∧ n - i ≤ g ∧ ti = .int .i64 (i : Nat) ∧ Row wr bG 33 16 (limb (enc (rsM n l x v i))) ∧ Up w2 wr)
    case atStart => exact ⟨0, Nat.zero_le _, by omega, rfl, hG0, hUI⟩
    case round =>
      clear hG0 hUI
      obtain ⟨i, hi, hig, rfl, hG, hu⟩ := hrel
      have hGI : InR (rsM n l x v i) := inR_bp (k := 3) (by omega) (HRb.out i hi).2
      by_cases hlt : i < n
      · obtain ⟨gZ, cZ, CZ, hv, -, hBZ, htZ⟩ := (show Wv w2 (.slice pz (tmL n l x).length cz) (tmL n l x) from by rw [HTl.out]; exact HW2.out).open (by rw [HTl.out]; omega)
        rw [HTl.out] at hv
        injection hv with x1 x2 x3
        subst x1 x3
        have HRng : Hid (∀ w', Blk w' gZ 33 CZ → w'.rangeAt gZ (i * 16) (wc (tmS n l x i n))) := hid (fun w' hB => HTa.out i hlt ▸ wv_range hB htZ (by rw [HTl.out]; exact hlt))
        have hBZr := hBZ.up hu
        have hVr := Vw.up (hU2.trans hu) HV.out
        obtain ⟨q', cq', xq, _, hcq⟩ := hVr
        injection xq with y1 y2 y3
        subst y1
        obtain ⟨ad, rfl, hck⟩ := hcq i (by rw [HVL.out]; exact hlt)
        have hp2 := HTb.out i hlt
        have hv64 := HVi.out i hlt
        have HOf := hid (HOV.out i hlt)
        have hRs : rsM n l x v (i + 1) = if rsM n l x v i < (((tmS n l x i n - zth v i).natAbs : Nat) : Int) then (((tmS n l x i n - zth v i).natAbs : Nat) : Int) else rsM n l x v i := rfl
        have e3 : bp 3 = bp 2 * 18446744073709551616 := bp_succ 2
        have e2' : bp 2 = bp 1 * 18446744073709551616 := bp_succ 1
        have e1' : bp 1 = bp 0 * 18446744073709551616 := bp_succ 0
        rw [bp_zero] at e1'
        have hd3 : (tmS n l x i n - zth v i).natAbs < bp 3 := by unfold I64 at hv64; omega
        have HLs := hid (fun w => sless_any (w := w) (inR_bp (k := 2) (by omega) hp2) (inR_bp (k := 2) (by omega) (show (zth v i).natAbs < bp 2 by unfold I64 at hv64; omega)) (inR_bp (k := 3) (by omega) hd3))
        have HAm := hid (fun w => samount_any (w := w) (Nat.lt_of_lt_of_le hd3 (bp_mono (show 3 ≤ 14 by omega))))
        have hAI : InR (((tmS n l x i n - zth v i).natAbs : Nat) : Int) := inR_bp (k := 3) (by omega) (by omega)
        have HCm := hid (fun w => cmp_z hAI hGI w)
        have HRs := hid hRs
        have e1 : IntKind.i64.wrap ((i : Int) + 1) = (i : Int) + 1 := IntWalk.i64_in _ (by omega)
        clear htZ x2 hBZ hcq y2 y3 hRs e3 e2' e1' hd3 hp2 hv64 hAI hGI
        obtain ⟨vi, hvi⟩ : ∃ y, zth v i = y := ⟨_, rfl⟩
        rw [hvi] at hck HOf HLs HAm HCm HRs
        clear hvi
        generalize tmS n l x i n = S at *
        generalize S - vi = dd at *
        obtain ⟨A, hA⟩ : ∃ A, ((dd.natAbs : Nat) : Int) = A := ⟨_, rfl⟩
        rw [hA] at HAm HCm HRs
        clear hA
        (try unfold wideV at HOf); (try unfold wideV at HLs); (try unfold wideV at HAm); (try unfold wideV at HCm)
        go_wp2_with (first
          | ((with_reducible apply ldW_P); exact rfl; exact rfl; exact HRng.out _ hBZr)
          | ((with_reducible apply st_rowP infoW); exact rfl; exact rfl; exact row_newz _ rfl
             refine wpL_folded (fun wd => Up wr wd ∧ Row wd wr.heap.size 33 16 (limb (enc S))) ⟨gUp, gRow⟩ ?_
             rintro wM ⟨hXM, hP⟩
             have hckM := hXM.cellEq hck))
        refine wp_region_upH (S := (fun wq => Row wq wr.heap.size 33 16 (limb (enc S)) ∧ wq.cell? (ad.add i) = some (.int .i64 vi) ∧ Up wM wq ∧ Below w.heap.size w wq)) (req := (fun j => j != 9)) (by kernel_rfl) (fun _ _ h hu => ⟨(h.1).up hu, hu.cell (h.2.1), (h.2.2.1).trans hu, below_up (h.2.2.2) hu⟩) ⟨gRow, (by first | assumption | (apply Blk.cell; exact gBlk; exact rfl)), (by first | exact Up.refl _ | assumption), gUp⟩ (fun wS hSS hSu => ?_)
        have ⟨hS1, hS2, hS3, hSB⟩ := hSS
        refine wpAnyU_take (i := 0) (d := (some 42)) (v := _) rfl rfl (by kernel_rfl) (fun _ _ _ h => h) hSu.out hSS (Or.inl ⟨by rfl, fun w' hSw => yu_value (run_ld undW infoW _ rfl _ rfl hSw.1)⟩) ?_
        try simp only [Act.put, pu1, pu2, pu3]
        refine wpAnyU_pure (i := 1) (d := (some 43)) (v := ?_) rfl rfl (by kernel_rfl) (fun _ _ _ h => h) hSu.out (Or.inl ⟨by rfl, fun w' _ => yu_value ?_⟩) ?_
        rotate_left
        · (go_simp; (try exact rfl))
        try simp only [Act.put, pu1, pu2, pu3]
        refine wpAnyU_pure (i := 2) (d := (some 44)) (v := ?_) rfl rfl (by kernel_rfl) (fun _ _ _ h => h) hSu.out (Or.inl ⟨by rfl, fun w' _ => yu_value ?_⟩) ?_
        rotate_left
        · (go_simp; (try exact rfl))
        try simp only [Act.put, pu1, pu2, pu3]
        refine wpAnyU_pure (i := 3) (d := (some 45)) (v := ?_) rfl rfl (by kernel_rfl) (fun _ _ _ h => h) hSu.out (Or.inl ⟨by rfl, fun w' _ => yu_value ?_⟩) ?_
        rotate_left
        · (go_simp; (try exact rfl))
        try simp only [Act.put, pu1, pu2, pu3]
        refine wpAnyU_take (i := 4) (d := (some 46)) (v := ?_) rfl rfl (by kernel_rfl) (fun _ _ _ h => h) hSu.out hSS (Or.inl ⟨by rfl, fun w' hSw => yu_value ?_⟩) ?_
        rotate_left
        · ((try dsimp only at hSw); (try obtain ⟨_, _, _, _⟩ := hSw); go_simp; (try exact rfl))
        try simp only [Act.put, pu1, pu2, pu3]
        refine wpAnyU_take (i := 5) (d := (some 47)) (v := _) rfl rfl (by kernel_rfl) (fun _ _ _ h => h) hSu.out hSS (Or.inl ⟨by rfl, fun w' hSw => yu_call ?_ (HOf.out _)⟩) ?_
        · go_simp
        try simp only [Act.put, pu1, pu2, pu3]
        refine wpAnyU_take (i := 6) (d := (some 48)) (v := _) rfl rfl (by kernel_rfl) (fun _ _ _ h => h) hSu.out hSS (Or.inl ⟨by rfl, fun w' hSw => yu_call ?_ (HLs.out _)⟩) ?_
        · go_simp
        try simp only [Act.put, pu1, pu2, pu3]
        refine wpAnyU_take (i := 7) (d := (some 49)) (v := _) rfl rfl (by kernel_rfl) (fun _ _ _ h => h) hSu.out hSS (Or.inl ⟨by rfl, fun w' hSw => yu_call ?_ (HAm.out _)⟩) ?_
        · go_simp
        try simp only [Act.put, pu1, pu2, pu3]
        refine wpAnyU_allocW (i := 8) (d := (some 14)) rfl rfl (by kernel_rfl) (by rfl) rfl hSu.out fun w3 hw3 => ?_
        try simp only [Act.put, pu1, pu2, pu3]
        refine wpAnyU_one (i := 9) rfl (by kernel_rfl) (by rfl) fun w4 hw4 => ?_
        refine wp_st_rowN infoW rfl _ _ rfl _ rfl rfl ((Row.up (row_newc _ 16 _ rfl) hw4)) ?_
        refine ⟨fun h => by simp at h, ?_⟩
        try simp only [Act.put, pu1, pu2, pu3]
        refine wpAnyU_done (by kernel_rfl) (fun wF huE => ?_) _
        have hP1 := ((Row.up (row_newc 33 16 (fun _ => 0) (rfl : w3.heap.size = w3.heap.size)) hw4).setRow (limb (enc A))).up huE
        have hx1 := hXM.trans (up_var (hS3.trans hw3) hw4 huE)
        clear hS1 hS2 hS3 hSB hSS hw3 hw4 huE hP
        have hGr := hG.up hx1
        obtain ⟨wB, hwB⟩ : ∃ x, wF = x := ⟨_, rfl⟩
        rw [hwB] at hP1 hx1 hGr ⊢
        clear hwB
        obtain ⟨b1, hb1⟩ : ∃ x, w3.heap.size = x := ⟨_, rfl⟩
        rw [hb1] at hP1 ⊢
        clear hb1
        obtain ⟨G, hGg⟩ : ∃ G, rsM n l x v i = G := ⟨_, rfl⟩
        rw [hGg] at hGr HCm HRs
        clear hGg hG
        by_cases hc : G < A
        · have dc : decide (cmpZ A G > 0) = true := by unfold cmpZ; rw [if_neg (by omega), if_pos hc]; rfl
          rw [if_pos hc] at HRs
          clear hc
          go_wp2_with (first
            | ((with_reducible apply ld_rowP undW infoW); exact rfl; exact rfl; exact gRow)
            | (go_at_call 85; (with_reducible refine (HCm.out _).mono ?_); rintro r w5 ⟨rfl, hu5⟩; have hP5 := hP1.up hu5; have hG5 := hGr.up hu5)
            | ((with_reducible apply st_rowP infoW); exact rfl; exact rfl; exact hG5
               refine wpL_folded (fun wd => Up w2 wd ∧ Row wd bG 33 16 (limb (enc A))) ⟨below_setRow (hu.trans (hx1.trans hu5)) (by omega) _, hG5.setRow _⟩ ?_
               rintro w6 ⟨hX6, hG6⟩))
          go_roundg (n - (i + 1))
          case measure => omega
          case rel => exact ⟨i + 1, hlt, Nat.le_refl _, rfl, by rw [HRs.out]; exact hG6, hX6⟩
        · have dc : decide (cmpZ A G > 0) = false := by unfold cmpZ; by_cases h1 : A < G; rw [if_pos h1]; rfl; rw [if_neg h1, if_neg hc]; rfl
          rw [if_neg hc] at HRs
          clear hc
          go_wp2_with (first
            | ((with_reducible apply ld_rowP undW infoW); exact rfl; exact rfl; exact gRow)
            | (go_at_call 85; (with_reducible refine (HCm.out _).mono ?_); rintro r w5 ⟨rfl, hu5⟩; have hP5 := hP1.up hu5; have hG5 := hGr.up hu5))
          go_roundg (n - (i + 1))
          case measure => omega
          case rel => exact ⟨i + 1, hlt, Nat.le_refl _, rfl, by rw [HRs.out]; exact hG5, hu.trans (hx1.trans hu5)⟩
      · obtain rfl : i = n := by omega
        have HI64 := hid (fun w => int64_z hGI w)
        have h0R := (HRb.out i hi).1
        by_cases hc : rsM i l x v i < 9223372036854775808
        · rw [i64V_yes (by omega)] at HI64
          have HC3 : Hid (C = 0) := hid (by rw [HC2.out]; exact if_pos hc)
          have HV3 : Hid (V = rsM i l x v i) := hid (by rw [HV2.out, HC3.out]; rfl)
          generalize rsM i l x v i = G at *
          clear hc h0R
          (try unfold wideV at HI64)
          go_wp2_with (first
            | ((with_reducible apply ld_rowP undW infoW); exact rfl; exact rfl; exact gRow)
            | (go_at_call 86; (with_reducible refine (HI64.out _).mono ?_); rintro r w5 ⟨rfl, hu5⟩))
          go_ret2
          exact ⟨.nilIface, by rw [HV3.out]; rfl, hU2.trans (hu.trans hu5), .inl ⟨HC3.out, rfl⟩⟩
        · rw [i64V_no (by omega)] at HI64
          have HC3 : Hid (C = 21) := hid (by rw [HC2.out]; exact if_neg hc)
          have HV3 : Hid (V = 0) := hid (by rw [HV2.out, HC3.out]; rfl)
          generalize rsM i l x v i = G at *
          clear hc h0R
          (try unfold wideV at HI64)
          go_wp2_with (first
            | ((with_reducible apply ld_rowP undW infoW); exact rfl; exact rfl; exact gRow)
            | (go_at_call 86; (with_reducible refine (HI64.out _).mono ?_); rintro r w5 ⟨rfl, hu5⟩)
            | (go_at_call 75; (with_reducible refine (HW21.out _).mono ?_); rintro r w6 ⟨u6, rfl, hu6, h6⟩))
          go_ret2
          exact ⟨u6, by rw [HV3.out]; rfl, hU2.trans (hu.trans (hu5.trans hu6)), by rw [HC3.out]; exact h6⟩
  · have HC2 : Hid (C = F) := hid (by rw [← HC.out]; unfold rsC; rw [HFF.out]; exact if_neg h0)
    have HV2 : Hid (V = 0) := hid (by rw [← HVv.out]; unfold rsV; rw [HC.out, HC2.out]; exact if_neg h0)
    have H0 := hid h0
    clear h0
    go_wp2_with fail
    go_ret2
    exact ⟨.iface t y, by rw [HV2.out]; rfl, hU1, by rw [HC2.out]; exact .inr ⟨H0.out, t, y, rfl, hE⟩⟩
theorem appendP {ops : Array Oper} {rest : List Oper} {Q : Exit → Act → World → Prop} {a : Act} {w : World} {d : Option Tmp} {s : Tmp} {ty : TypeId} {pos : String} {af : Array Edge} {g c : Nat} {t : TypeId} {f : Nat → Nat}
    (hx : a.eval (.tmp s) = .slice (some ⟨g, 0, none⟩) 16 c) (hR : Row w g t 16 f)
    (h : ∀ (b cap : Nat) (C : Array Value) (w' : World), Up w w' → 16 ≤ cap → Blk w' b 31 C → (∀ i, i < 16 → C[i]? = some (.int .u64 (f i : Nat))) → wpList Tryz.prog ops Q rest (a.put d (.slice (some ⟨b, 0, none⟩) 16 cap)) w') :
    wpList Tryz.prog ops Q ({ dst := d, op := .call { callee := .builtin .append, args := #[.const (.slice none 0 0), .tmp s], argTypes := #[44, 44] }, type := ty, pos := pos, after := af, guard := none } :: rest) a w := by
  obtain ⟨i0, hi, hz0, hz1, hz2⟩ := info_parts infoU
  refine wpList_append_own w rfl _ _ 44 rfl 0 31 i0 (.int .u64 0) 1 8 undS hi hz0 hz1 hz2 rfl (by decide) (.slice none 0 0) 0 [] rfl (World.ownsRow_nil _ _ _ _) ⟨g, 0, none⟩ 16 c (cells 16 f).toList hx (by simp [cells_size]) ?_ ?_ (by decide) (by decide) (Nat.zero_le _) ?_
  · intro j u hj
    have hj16 : j < 16 := by
      have := (List.getElem?_eq_some_iff.1 hj).1
      simpa [cells_size] using this
    have hadd : (⟨g, 0, none⟩ : Addr).add j = ⟨g, j, none⟩ := by unfold Addr.add; split <;> simp_all
    rw [hadd, hR.cell j hj16]
    rw [Array.getElem?_toList, cells_get 16 f j hj16] at hj
    exact hj
  · intro u hu
    obtain ⟨j, hj⟩ := List.mem_iff_getElem?.1 hu
    have hj16 : j < 16 := by
      have := (List.getElem?_eq_some_iff.1 hj).1
      simpa [cells_size] using this
    rw [Array.getElem?_toList, cells_get 16 f j hj16] at hj
    cases hj
    rfl
  · intro v' w' hown hgrow _
    obtain ⟨hlen, hor⟩ := hown
    rcases hor with ⟨_, h0⟩ | ⟨b, cap, cur, rfl, _, hb, hcap, _, hsz, htake⟩
    · simp at h0
    · rw [Nat.zero_add] at hcap htake ⊢
      refine h b cap cur w' ⟨hgrow.os, hgrow.tape, hgrow.output, hgrow.size, fun k hk => hgrow.block k hk (by simp [Value.ownBlock])⟩ hcap hb fun i hi => ?_
      have h1 : (cur.toList.take (16 * 1))[i]? = ([] ++ (cells 16 f).toList)[i]? := by rw [htake]
      rw [List.getElem?_take_of_lt (by omega), List.nil_append, Array.getElem?_toList, Array.getElem?_toList, cells_get 16 f i hi] at h1
      exact h1
theorem xor_all {x : Nat} (h : x < 2 ^ 64) : (2 ^ 64 - 1) ^^^ x = 2 ^ 64 - (x + 1) := by
  apply Nat.eq_of_testBit_eq
  intro i
  rw [Nat.testBit_xor, Nat.testBit_two_pow_sub_one, Nat.testBit_two_pow_sub_succ h]
  by_cases hi : i < 64
  · simp [hi]
  · have : x.testBit i = false := Nat.testBit_lt_two_pow (Nat.lt_of_lt_of_le h (Nat.pow_le_pow_right (by decide) (by omega)))
    simp [hi, this]
theorem bits_not {x : Nat} (h : x < 18446744073709551616) : bits BinOp.xor IntKind.u64 IntKind.u64.max (x : Int) = ((18446744073709551615 - x : Nat) : Int) := by
  have h1 := bits_xor_u64_nat 18446744073709551615 x (by decide) h
  have h2 := xor_all (x := x) h
  rw [show (2 ^ 64 - 1 : Nat) = 18446744073709551615 from rfl, show (2 ^ 64 : Nat) = 18446744073709551616 from rfl] at h2
  rw [h2] at h1
  rw [show (IntKind.u64.max : Int) = ((18446744073709551615 : Nat) : Int) from rfl, h1]
  omega
theorem mkC {ops : Array Oper} {rest : List Oper} {Q : Exit → Act → World → Prop} {a : Act} {w : World} {d : Option Tmp} {ty : TypeId} {pos : String} {af : Array Edge} {L : Int} {n : Nat} (hL : L = (n : Int)) (hn : n < 1000000)
    (h : wpList Tryz.prog ops Q rest (a.put d (.slice (some ⟨w.heap.size, 0, none⟩) n n)) (w.alloc (.cells (cells n (fun _ => 0)) 31))) :
    wpList Tryz.prog ops Q ({ dst := d, op := .makeSlice 44 (.const (.int .i64 L)) (.const (.int .i64 L)), type := ty, pos := pos, after := af, guard := none } :: rest) a w := by
  refine wpList_plain rfl fun _ hK => ?_
  have hi := infoU
  cases hq : Tryz.prog.info? 31 with
  | none => rw [hq] at hi; simp at hi
  | some i =>
    rw [hq] at hi
    simp only [Option.map_some, Option.some.injEq, Prod.mk.injEq] at hi
    have hr := run_make (P := Tryz.prog) (w := w) 44 31 i (.int .u64 0) undS hq hi.1 .i64 .i64 L L (by omega) (by omega) (by rw [hi.2.2]; omega) (by omega)
    rw [hi.2.1, Nat.mul_one, hL, Int.toNat_natCast, zeros_made] at hr
    unfold Oper.wp execOp
    simp only [Act.eval, hL, Sem.run_bind, Sem.run_pure, Result.andThen_ok, hr]
    exact hK _ _ h
theorem comp_step {S : Nat → Nat} {X A B c r c' i : Nat} (h : sumL S i + c * bp i + A = B) (hB : B = bp i) (hr : r + c' * 18446744073709551616 + X = 18446744073709551615 + c) : sumL (upd S i r) (i + 1) + c' * bp (i + 1) + (A + X * bp i) = bp (i + 1) := by
  subst hB
  rw [sumL_upd_succ, bp_succ]
  have h2 : (r + c' * 18446744073709551616 + X) * bp i = (18446744073709551615 + c) * bp i := by rw [hr]
  have h3 : r * bp i + c' * (bp i * 18446744073709551616) + X * bp i = 18446744073709551615 * bp i + c * bp i := by grind
  omega
set_option maxHeartbeats 2000000 in
theorem from_wide {z : Int} (hz : InR z) (w : World) :
    Calls Tryz.prog 94 #[wideV (enc z)] w fun e w' => Up w w' ∧ ∃ v, e = .returned v ∧ Big w' v z := by
  have hlt := enc_lt z
  have htop := top_iff hlt
  have hc15 := cells_get 16 (limb (enc z)) 15 (by decide)
  have hl15 := limb_lt (enc z) 15
  have hsum := sumL_limb (enc z) 16
  rw [Nat.mod_eq_of_lt hlt] at hsum
  have hr := hz.out
  have hb16 := bp16
  by_cases h0 : z < 0
  · have hen := (enc_neg hz h0)
    have hd : ((limb (enc z) 15 : Nat) : Int) / 9223372036854775808 = 1 := by
      have := htop.2 hen.2
      omega
    have HE := hid hen.1
    have HZ := hid h0
    have HR := hid (show 0 < z.natAbs ∧ z.natAbs < bp 16 by have := hb_pos; omega)
    have HSum := hid hsum
    have HFl := hid (fun i => limb_lt (enc z) i)
    clear htop hsum hr hb16 hen hlt
    unfold wideV
    generalize hf : limb (enc z) = f at *
    generalize hff : f 15 = top at *
    go_enter Tryz.func94, Tryz.ntmps94
    go_wp2_with (first | ((with_reducible apply mkC (n := 16)); exact rfl; omega))
    go_loopw [3, 5] (fun tc ti wr => ∃ (i cc : Nat) (S : Nat → Nat), i ≤ 16 ∧ tc = .int .u64 (cc : Nat) ∧ ti = .int .i64 (i : Nat) ∧ cc ≤ 1 ∧ (∀ j, j < 16 → S j < 18446744073709551616) ∧ sumL S i + cc * bp i + sumL f i = bp i ∧
        Row wr w.heap.size 33 16 f ∧ Blk wr (w.heap.size + 1) 46 #[.bool false, .slice none 0 0] ∧ Row wr (w.heap.size + 1 + 1) 31 16 S ∧ Below w.heap.size w wr)
      (fun _ ti _ => 16 - (intOf ti).toNat)
    case atStart => exact ⟨0, 1, fun _ => 0, by omega, rfl, rfl, by omega, fun _ _ => by simp, by simp [sumL_zero, bp_zero], gRow, gBlk, gRow, gUp⟩
    case round =>
      obtain ⟨i, cc, S, hi, rfl, rfl, hcc, hSb, hsum, hF, hK, hS, hB⟩ := hrel
      have HSb := hid hSb
      have Hsum := hid hsum
      clear hSb hsum
      by_cases hlt : i < 16
      · have hcx := hF.cell i hlt
        have hfi := HFl.out i
        obtain ⟨r, c', hadd, hrc, hrl, hc1⟩ : ∃ r c' : Nat, (∀ w, (callFunc 107 #[.int .u64 (18446744073709551615 - f i : Nat), .int .u64 0, .int .u64 (cc : Nat)]).run Tryz.prog w = .ok (.value (.tuple #[.int .u64 (r : Nat), .int .u64 (c' : Nat)])) w) ∧ Hid (r + c' * 18446744073709551616 + f i = 18446744073709551615 + cc) ∧ r < 18446744073709551616 ∧ c' ≤ 1 := by
          have h := run_add (18446744073709551615 - f i) 0 cc hcc
          simp only [show ((0 : Nat) : Int) = 0 from rfl] at h
          exact ⟨_, _, h, hid (by omega), Nat.mod_lt _ (by decide), by omega⟩
        have hxor := bits_not hfi
        obtain ⟨Y, hY⟩ : ∃ Y, 18446744073709551615 - f i = Y := ⟨_, rfl⟩
        rw [hY] at hadd hxor
        clear hY
        have hcs := hS.cell i hlt
        have hfs := hS.frozen i
        have gF := hF.other ⟨w.heap.size + 1 + 1, i, none⟩ (.int .u64 (r : Nat)) (by simp; omega)
        have gK := hK.other ⟨w.heap.size + 1 + 1, i, none⟩ (.int .u64 (r : Nat)) (by simp)
        have gS := hS.set i r
        have gB := hB.setCell (p := ⟨w.heap.size + 1 + 1, i, none⟩) (by simp; omega) (.int .u64 (r : Nat))
        clear hF hK hS hB
        go_wp2
        go_roundw
        case rel =>
          refine ⟨i + 1, c', upd S i r, by omega, rfl, by go_num, hc1, upd_lt HSb.out hrl, ?_, gF, gK, gS, gB⟩
          rw [sumL_succ f i]
          exact comp_step Hsum.out rfl hrc.out
        case measure => simp [intOf] <;> omega
      · obtain rfl : i = 16 := by omega
        have he : sumL S 16 = z.natAbs := by
          have h1 := Hsum.out
          have h2 := HSum.out
          have h3 := HE.out
          have h4 := HR.out
          have h5 := sumL_lt HSb.out
          rcases Nat.eq_zero_or_pos cc with h0 | h0
          · subst h0; omega
          · have : 1 * bp 16 ≤ cc * bp 16 := Nat.mul_le_mul_right _ h0
            omega
        have ht := trim_row (w.heap.size + 1 + 1) 16 16 16 S wr hS (Nat.le_refl _) (Nat.le_refl _) (by decide)
        have hres := am_row (c := 16) hS (Nat.le_refl _) (Nat.le_refl _) HSb.out
        have hn := nl_sum HSb.out
        rw [he] at hres hn
        rw [← hn] at ht hres
        have HT := hid ht
        have HA := hid hres
        clear ht hres he HSb Hsum hS hF hn
        go_wp2_with (first | (go_at_call 93; (with_reducible refine HT.out.mono ?_); rintro e wT ⟨rfl, huT⟩) | (go_at_call 68; (with_reducible refine (made_any _ _ _ _ _).mono ?_); rintro e wM ⟨rfl, huM⟩) | ((with_reducible apply stB_P); exact rfl; exact rfl; exact gBlk; exact rfl; exact rfl; exact one2 _ _ _ _))
        have hB' := big_made true ((HA.out.up huT).up huM)
        have hv : pm true z.natAbs = z := by have h2 := HZ.out; simp only [pm, if_true]; omega
        rw [hv, Bool.true_and] at hB'
        have hK' : Blk wM (w.heap.size + 1) 46 #[.bool false, .slice none 0 0] := (hK.up huT).up huM
        exact bodyPost_ret (resB rfl rfl (hK'.setRow _) rfl) rfl ⟨gUp, _, rfl, hB'.setRow hK'⟩
  · have hen := (enc_nn hz (by omega))
    have hd : ((limb (enc z) 15 : Nat) : Int) / 9223372036854775808 = 0 := by
      have : ¬ 9223372036854775808 ≤ limb (enc z) 15 := fun h => by have := htop.1 h; omega
      omega
    have hS : ∀ i, i < 16 → limb (enc z) i < 18446744073709551616 := fun i _ => limb_lt _ i
    have hl1 := lenL_le (limb (enc z)) 16
    have HE := hid (show enc z = z.natAbs by omega)
    have HZ := hid (show decide (z < 0) = false from decide_eq_false h0)
    have HN := hid (nl_sum hS)
    rw [hsum] at HN
    have HSum := hid hsum
    have HS := hid hS
    clear htop hsum hr hb16 hen hlt hS
    unfold wideV
    generalize hf : limb (enc z) = f at *
    generalize hff : f 15 = top at *
    go_enter Tryz.func94, Tryz.ntmps94
    go_wp2_with (first | ((with_reducible apply appendP); exact rfl; (focus (repeat (first | assumption | ((with_reducible apply row_newc); (focus (first | rfl | (simp; done)))) | (with_reducible apply row_alloc)))); rintro ba cap C wA huA hcap hBA hCA) | (go_at_call 93; (with_reducible refine (trim_cells _ 16 cap f _ (fun i hi => hBA.cell i (hCA i hi)) hcap (by decide)).mono ?_); rintro e wT ⟨rfl, huT⟩) | (go_at_call 68; (with_reducible refine (made_any _ _ _ _ _).mono ?_); rintro e wM ⟨rfl, huM⟩) | ((with_reducible apply stB_P); exact rfl; exact rfl; exact gBlk; exact rfl; exact rfl; exact one2 _ _ _ _))
    have hA := am_blk ((hBA.up huT).up huM) hCA hcap HS.out
    rw [HSum.out, ← HN.out] at hA
    have hB := big_made false hA
    have hv : pm false (enc z) = z := by
      have h1 := HE.out
      have h2 := of_decide_eq_false HZ.out
      simp only [pm, Bool.false_eq_true, if_false]
      omega
    rw [HN.out, Bool.false_and, hv] at hB
    have hK : Blk wM (w.heap.size + 1) 46 #[.bool false, .slice none 0 0] := gBlk
    exact bodyPost_ret (resB rfl rfl (hK.setRow _) rfl) rfl ⟨gUp, _, rfl, hB.setRow hK⟩
theorem sm_ex {w : World} {v : Value} (h : Vw w v [2, 1, 2]) : Sm w (.agg #[.int .i64 2, v]) 2 [2, 1, 2] :=
  ⟨_, rfl, h, by unfold I64; omega, fun i hi => by
    rcases i with _ | _ | _ | i
    · unfold I64; decide
    · unfold I64; decide
    · unfold I64; decide
    · simp at hi; omega, by simp⟩
theorem sm_nought {w : World} {v : Value} (h : Vw w v [0]) : Sm w (.agg #[.int .i64 1, v]) 1 [0] :=
  ⟨_, rfl, h, by unfold I64; omega, fun i hi => by
    rcases i with _ | i
    · unfold I64; decide
    · simp at hi, by simp⟩
theorem ssays_any {u : Value} {e : Int} {w : World} (h : ErrsP solveB w u e) (hg : Glob w) :
    Calls Tryz.prog 36 #[u, .int .i64 e] w fun r w' => r = .returned (.bool true) ∧ Up w w' := by
  rcases h with ⟨rfl, rfl⟩ | ⟨h0, t, x, rfl, hE⟩
  · go_enter Tryz.func36, Tryz.ntmps36
    go_wp2_with fail
    go_ret
    exact ⟨rfl, Up.refl _⟩
  · have d : (e == 0) = false := by simpa using h0
    have HO := hid (fun w' (hu : Up w w') => ops_any (hE.up hu) (show 1 < 1000000 by decide))
    have HC := hid (fun w' (hu : Up w w') => code_any (hE.up hu) (hg.up hu))
    have de : (e == e) = true := by simp
    have dB : (solveB.toList == [115, 111, 108, 118, 101]) = true := by rw [show solveB.toList = [115, 111, 108, 118, 101] from by rw [ByteArray.toList_eq]; rfl]; rfl
    clear hE hg h0
    go_enter Tryz.func36, Tryz.ntmps36
    go_wp2_with (first
      | (go_at_call 59; (with_reducible refine (HO.out _ (Up.refl _)).mono ?_); rintro r w1 ⟨s, rfl, hu1, hs⟩; obtain ⟨g, cap, C, rfl, hB, h0⟩ := own_one hs)
      | (go_at_call 60; (with_reducible refine (HC.out _ hu1).mono ?_); rintro r w2 ⟨rfl, hu2⟩; have hc := (hB.up hu2).cell 0 h0; have de2 : ((Er.flt solveB (.num e)).first.getD 36 == e) = true := by (show (e == e) = true; simp)))
    go_ret
    exact ⟨rfl, hu1.trans hu2⟩
theorem k_near : neC 2 [2, 1, 2] [3, 3] = 0 ∧ neL 2 [2, 1, 2] [3, 3] = [1, 1] := by decide +kernel
theorem k_res : rsC 2 [2, 1, 2] [1, 1] [3, 4] = 0 ∧ rsV 2 [2, 1, 2] [1, 1] [3, 4] = 1 := by decide +kernel
theorem k_bad : neC 1 [0] [1] = 30 := by decide +kernel
theorem in64_pair {a b : Int} (ha : I64 a) (hb' : I64 b) : In64 [a, b] := fun i hi => by
  rcases i with _ | _ | i
  · exact ha
  · exact hb'
  · simp at hi; omega
theorem in64_sole {a : Int} (ha : I64 a) : In64 [a] := fun i hi => by
  rcases i with _ | i
  · exact ha
  · simp at hi
set_option maxHeartbeats 8000000 in
theorem sknown_true {w : World} (hg : Glob w) :
    Calls Tryz.prog 30 #[] w fun r w' => r = .returned (.bool true) ∧ Up w w' := by
  have HG := hid (fun w' (hu : Up w w') => hg.up hu)
  have hW := vw_three w 2 1 2
  obtain ⟨wA, hwA⟩ : ∃ y, w.alloc (.cells #[.int .i64 2, .int .i64 1, .int .i64 2] 2) = y := ⟨_, rfl⟩
  have hUA : Up w wA := by rw [← hwA]; exact Up.alloc _ _
  obtain ⟨bA, hbA⟩ : ∃ y, w.heap.size = y := ⟨_, rfl⟩
  rw [hwA, hbA] at hW
  obtain ⟨wB, hwB⟩ : ∃ y, wA.alloc (.cells #[.int .i64 2, .slice (some ⟨bA, 0, none⟩) 3 3] 24) = y := ⟨_, rfl⟩
  have hB : Blk wB wA.heap.size 24 #[.int .i64 2, .slice (some ⟨bA, 0, none⟩) 3 3] := by rw [← hwB]; exact Blk.new _ _ rfl
  have hUB : Up wA wB := by rw [← hwB]; exact Up.alloc _ _
  obtain ⟨bB, hbB⟩ : ∃ y, wA.heap.size = y := ⟨_, rfl⟩
  rw [hbB] at hB
  have HS := hid (fun w' (hu : Up wB w') => sm_ex (Vw.up (hUB.trans hu) hW))
  have i1 : I64 1 := by unfold I64; decide
  have i3 : I64 3 := by unfold I64; decide
  have i4 : I64 4 := by unfold I64; decide
  have HN := hid (fun w' (hu : Up wB w') => show Calls Tryz.prog 34 #[.agg #[.int .i64 2, .slice (some ⟨bA, 0, none⟩) 3 3], .slice (some ⟨w'.heap.size, 0, none⟩) 2 2] (w'.alloc (.cells #[.int .i64 3, .int .i64 3] 2)) fun r w'' => ∃ z u, r = .returned (.tuple #[z, u]) ∧ Up (w'.alloc (.cells #[.int .i64 3, .int .i64 3] 2)) w'' ∧ Vw w'' z [1, 1] ∧ u = .nilIface from by
    have h := near_sol (HS.out _ (hu.trans (Up.alloc w' _))) (vw_two w' 3 3) (in64_pair i3 i3) (by simp)
    unfold NearPost at h
    rw [k_near.1, k_near.2] at h
    refine h.mono ?_
    rintro r w1 ⟨z, u, rfl, hu1, hV, -, he⟩
    exact ⟨z, u, rfl, hu1, hV, he.elim (fun h => h.2) (fun h => absurd rfl h.1)⟩)
  have HR := hid (fun w' (hu : Up wB w') => show Calls Tryz.prog 43 #[.agg #[.int .i64 2, .slice (some ⟨bA, 0, none⟩) 3 3], .slice (some ⟨w'.heap.size, 0, none⟩) 2 2, .slice (some ⟨w'.heap.size + 1, 0, none⟩) 2 2] ((w'.alloc (.cells #[.int .i64 1, .int .i64 1] 2)).alloc (.cells #[.int .i64 3, .int .i64 4] 2)) fun r w'' => r = .returned (.tuple #[.int .i64 1, .nilIface]) ∧ Up ((w'.alloc (.cells #[.int .i64 1, .int .i64 1] 2)).alloc (.cells #[.int .i64 3, .int .i64 4] 2)) w'' from by
    have h2 := vw_two (w'.alloc (.cells #[.int .i64 1, .int .i64 1] 2)) 3 4
    rw [show (w'.alloc (.cells #[.int .i64 1, .int .i64 1] 2)).heap.size = w'.heap.size + 1 from by simp] at h2
    have h := residual_any (HS.out _ (hu.trans ((Up.alloc w' _).trans (Up.alloc _ _)))) (Vw.up (Up.alloc _ _) (vw_two w' 1 1)) h2 (in64_pair i1 i1) (in64_pair i3 i4) (by simp) (by simp)
    unfold ResPost at h
    rw [k_res.1, k_res.2] at h
    refine h.mono ?_
    rintro r w1 ⟨u, rfl, hu1, he⟩
    obtain rfl := he.elim (fun h => h.2) (fun h => absurd rfl h.1)
    exact ⟨rfl, hu1⟩)
  have HX := hid (fun (w' : World) => show Calls Tryz.prog 34 #[.agg #[.int .i64 1, .slice (some ⟨w'.heap.size, 0, none⟩) 1 1], .slice (some ⟨w'.heap.size + 1, 0, none⟩) 1 1] ((w'.alloc (.cells #[.int .i64 0] 2)).alloc (.cells #[.int .i64 1] 2)) fun r w'' => ∃ z u, r = .returned (.tuple #[z, u]) ∧ Up ((w'.alloc (.cells #[.int .i64 0] 2)).alloc (.cells #[.int .i64 1] 2)) w'' ∧ ErrsP solveB w'' u 30 from by
    have h2 := vw_one (w'.alloc (.cells #[.int .i64 0] 2)) 1
    rw [show (w'.alloc (.cells #[.int .i64 0] 2)).heap.size = w'.heap.size + 1 from by simp] at h2
    have h := near_sol (sm_nought (Vw.up (Up.alloc _ _) (vw_one w' 0))) h2 (in64_sole i1) (by simp)
    unfold NearPost at h
    rw [k_bad] at h
    refine h.mono ?_
    rintro r w1 ⟨z, u, rfl, hu1, -, -, he⟩
    exact ⟨z, u, rfl, hu1, he⟩)
  have hU := hUA.trans hUB
  clear hg hW hUA hUB i1 i3 i4
  go_enter Tryz.func30, Tryz.ntmps30
  go_upto_region 4 with (first
    | ((with_reducible apply ldM_P); exact rfl; exact rfl; (first | exact hB | exact hB1); exact rfl)
    | (go_at_call 34; (with_reducible refine (HN.out _ (Up.refl _)).mono ?_); rintro r w1 ⟨z1, u1, rfl, hu1, hV1, rfl⟩; have hU1 := (Up.alloc wB _).trans hu1; have hB1 := hB.up hU1; obtain ⟨p1, c1, rfl, -, -⟩ := id hV1; change Vw w1 (.slice p1 2 c1) [1, 1] at hV1)
    | (go_at_call 43; (with_reducible refine (HR.out _ hU1).mono ?_); rintro r w2 ⟨rfl, hu2⟩; have hU2 := (Up.alloc w1 _).trans ((Up.alloc _ _).trans hu2)))
  have hV2 := Vw.up hU2 hV1
  have hU3 := hU.trans (hU1.trans hU2)
  clear hV1 hu1 hu2 hB1 hB hwA hwB hbA hbB
  go_wp2_with (first
    | (go_at_call 34; (with_reducible refine (HX.out _).mono ?_); rintro r w3 ⟨z3, u3, rfl, hu3, he3⟩; have hU4 := (Up.alloc w2 _).trans ((Up.alloc _ _).trans hu3); have hU5 := hU3.trans hU4; have hV4 := Vw.up hU4 hV2)
    | (go_at_call 38; (with_reducible refine (ints_eq (Vw.up (Up.alloc _ _) hV4) (vw_two _ 1 1) (by simp)).mono ?_); rintro r w4 ⟨rfl, hu4⟩; have hU6 := (Up.alloc w3 _).trans hu4)
    | (go_at_call 36; (with_reducible refine (ssays_any (he3.up hU6) (HG.out _ (hU5.trans hU6))).mono ?_); rintro r w5 ⟨rfl, hu5⟩))
  go_ret
  exact ⟨rfl, hU5.trans (hU6.trans hu5)⟩
end Go.Proofs.YtjoenldfjggciaaGreatDoor
