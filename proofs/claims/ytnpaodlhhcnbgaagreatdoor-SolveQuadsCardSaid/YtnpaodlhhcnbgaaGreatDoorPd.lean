import Derived.Test.YtnpaodlhhcnbgaaGreatDoorPc
import Derived.Deep.MidRow
import Derived.Laws.CopyRow
import Derived.Deep.DeepCutAuto
import Derived.Deep.CutRange
import Derived.Deep.CutBlock
namespace Go.Proofs.YtnpaodlhhcnbgaaGreatDoor
open Go Go.RowKit
set_option maxRecDepth 100000
def tmS (n : Nat) (l x : List Int) (i : Nat) : Nat → Int
  | 0 => 0
  | k + 1 => tmS n l x i k + ent n l i k * zth x k
def tmL (n : Nat) (l x : List Int) : List Int := mk n fun i => tmS n l x i n
def tmC (N : Int) (l x : List Int) : Int := if rt N l && decide ((x.length : Int) = N) then 0 else 23
def tmR (N : Int) (l x : List Int) : List Int := if tmC N l x = 0 then tmL N.toNat l x else []
theorem ent_fit {n : Nat} {l : List Int} (hR : rt n l = true) {i j : Nat} (hi : i < n) (hj : j < n) : (ent n l i j).natAbs ≤ 1073741824 := by
  obtain ⟨k, _, hk, he⟩ := idx_nat hR (show rng (n : Int) i j = true from decide_eq_true (by omega))
  have := (rt_spec hR).2.2.2 k hk
  rw [he]
  have := of_decide_eq_true this
  omega
theorem tmS_abs {n A B : Nat} {l x : List Int} {i : Nat} (hE : ∀ j : Nat, j < n → (ent n l i j).natAbs ≤ A) (hx : ∀ j, j < n → (zth x j).natAbs ≤ B) : ∀ k, k ≤ n → (tmS n l x i k).natAbs ≤ k * (A * B) := by
  intro k
  induction k with
  | zero => intro _; exact Nat.zero_le _
  | succ k ih =>
    intro hk
    have h1 := ih (by omega)
    have h5 := Nat.mul_le_mul (hE k (by omega)) (hx k (by omega))
    rw [← Int.natAbs_mul] at h5
    have h6 := Int.natAbs_add_le (tmS n l x i k) (ent n l i k * zth x k)
    show (tmS n l x i k + ent n l i k * zth x k).natAbs ≤ _
    rw [Nat.succ_mul]
    exact Nat.le_trans h6 (Nat.add_le_add h1 h5)
theorem i64_abs {z : Int} (h : I64 z) : z.natAbs ≤ 9223372036854775808 := by unfold I64 at h; omega
theorem tmS_bp {n : Nat} {l x : List Int} (hR : rt n l = true) (hx : In64 x) (hl : x.length = n) {i k : Nat} (hi : i < n) (hk : k ≤ n) (h8 : n ≤ 8) : (tmS n l x i k).natAbs < bp 2 := by
  have h1 := tmS_abs (A := 1073741824) (B := 9223372036854775808) (fun j hj => ent_fit hR hi hj) (fun j hj => i64_abs (hx j (by rw [hl]; exact hj))) k hk
  have h2 : bp 2 = 18446744073709551616 * 18446744073709551616 := by rw [bp_succ 1, bp_succ 0, bp_zero, Nat.one_mul]
  rw [h2]
  exact Nat.lt_of_le_of_lt h1 (Nat.lt_of_le_of_lt (Nat.mul_le_mul_right _ (show k ≤ 8 by omega)) (by decide))
theorem mul_bp1 {a b : Int} (ha : a.natAbs < bp 1) (hb' : b.natAbs < bp 1) : (a * b).natAbs < bp 2 := by
  rw [Int.natAbs_mul, show bp 2 = bp 1 * bp 1 from by rw [← bp_add]]
  exact Nat.mul_lt_mul_of_lt_of_lt ha hb'
theorem vw_two (w : World) (a b : Int) : Vw (w.alloc (.cells #[.int .i64 a, .int .i64 b] 2)) (.slice (some ⟨w.heap.size, 0, none⟩) 2 2) [a, b] := by
  refine ⟨_, 2, rfl, ⟨Nat.le_refl _, fun e => by cases e⟩, fun i hi => ⟨_, rfl, ?_⟩⟩
  rcases i with _ | _ | i
  · simp [zth, Addr.add]
  · simp [zth, Addr.add]
  · simp at hi; omega
theorem tmL_succ (n : Nat) (l x : List Int) {i : Nat} (hi : i < n) : (tmL n l x).take (i + 1) = (tmL n l x).take i ++ [tmS n l x i n] := by
  have hl : (tmL n l x).length = n := mk_len _ _
  rw [List.take_add_one, List.getElem?_eq_getElem (by omega)]
  have : (tmL n l x)[i]'(by omega) = tmS n l x i n := by
    have := mk_at (f := fun i => tmS n l x i n) hi
    rw [zth_get (by rw [mk_len]; exact hi)] at this
    exact this
  rw [this]
  rfl
def WidesPost (w : World) (l : List Int) (e : Int) (r : Ending) (w' : World) : Prop := ∃ z u, r = .returned (.tuple #[z, u]) ∧ Up w w' ∧ Wv w' z l ∧ Errs w' u e
theorem wv_nil (w : World) : Wv w (.slice none 0 0) [] := .inl ⟨rfl, none, 0, rfl⟩
set_option maxHeartbeats 8000000 in
theorem times_w {v xv : Value} {N : Int} {l x : List Int} {w : World} (hm : Sm w v N l) (hh : Vw w xv x) (hI : In64 x) (hh3 : x.length ≤ 1000) :
    Calls Tryz.prog 92 #[v, xv] w (WidesPost w (tmR N l x) (tmC N l x)) := by
  have HR := hid (fun w' (hu : Up w w') => sright_any (hm.up hu))
  have HWR := hid wrong_any
  obtain ⟨s, rfl, hV, hN, hl, hlen⟩ := hm
  have HVl := hid hV
  obtain ⟨p, cap, rfl, hcap, hc⟩ := hV
  have HH := hid hh
  obtain ⟨q, cq, rfl, _⟩ := hh
  obtain ⟨W0, hW0⟩ : ∃ W0, w.alloc (.cells #[.int .i64 N, .slice p l.length cap] 24) = W0 := ⟨_, rfl⟩
  have hB : Blk W0 w.heap.size 24 #[.int .i64 N, .slice p l.length cap] := by rw [← hW0]; exact Blk.new _ _ rfl
  have hU : Up w W0 := by rw [← hW0]; exact Up.alloc _ _
  cases hR : rt N l with
  | false =>
    have e : tmC N l x = 23 := by unfold tmC; rw [hR]; rfl
    have e2 : tmR N l x = [] := by unfold tmR; rw [e]; rfl
    rw [e, e2]
    rw [hR] at HR
    clear e e2 hR hc hl hN hI
    go_enter Tryz.func92, Tryz.ntmps92
    go_wp2_with (first
      | ((with_reducible apply ldM_P); exact rfl; exact rfl; exact hB; exact rfl)
      | (go_at_call 41; (with_reducible refine (HR.out _ hU).mono ?_); rintro r w1 ⟨rfl, hu1⟩)
      | (go_at_call 107; (with_reducible refine (HWR.out _ _).mono ?_); rintro r w2 ⟨t2, u2, rfl, hu2, h2⟩))
    go_ret2
    exact ⟨_, _, rfl, (hU.trans hu1).trans hu2, wv_nil _, Errs.some_ (by decide) h2⟩
  | true =>
    rw [hR] at HR
    by_cases hn0 : (x.length : Int) = N
    · obtain ⟨n, rfl⟩ : ∃ n : Nat, N = (n : Int) := ⟨x.length, hn0.symm⟩
      have hxn : x.length = n := by omega
      obtain ⟨_, n8, htri, _⟩ := rt_spec hR
      have e : tmC n l x = 0 := by unfold tmC; rw [hR, decide_eq_true hn0]; rfl
      have e2 : tmR n l x = tmL n l x := by unfold tmR; rw [e, if_pos rfl]; rfl
      rw [e, e2]
      have d3 : ((x.length : Int) != (n : Int)) = false := by rw [hn0]; simp
      have HIX := hid (fun (i j : Nat) (hi : i < n) (hj : j < n) => idx_nat hR (show rng (n : Int) i j = true from decide_eq_true (by omega)))
      have HX := hid (fun (i j : Nat) (hi : i < n) (hj : j < n) w => idx_any (n : Int) (i : Int) (j : Int) n8 (by omega) (by omega) (by omega) (by omega) w)
      have HCell := hid (fun w' (hu : Up w w') (k : Nat) (hk : k < l.length) => show ∃ a, p = some a ∧ w'.cell? (a.add k) = some (.int .i64 (zth l k)) from by obtain ⟨a, h1, h2⟩ := hc k hk; exact ⟨a, h1, hu.cellEq h2⟩)
      have HS := hid (fun i k (hi : i < n) (hk : k ≤ n) => tmS_bp hR hI hxn hi hk (by omega))
      have HI64 := hid hI
      have Hl64 := hid hl
      have HTL := hid (fun i (hi : i < n) => tmL_succ n l x hi)
      have hTl : (tmL n l x).length = n := mk_len _ _
      have HTl := hid hTl
      have hn8 : n ≤ 8 := by omega
      have hxl9 := hxn
      clear e e2 hR hc hl hN hI hn0 htri hTl n8
      obtain ⟨T, hT⟩ : ∃ T, tmL n l x = T := ⟨_, rfl⟩
      rw [hT] at HTL HTl ⊢
      clear hT
      go_enter Tryz.func92, Tryz.ntmps92
      go_wp2_with (first
        | ((with_reducible apply ldM_P); exact rfl; exact rfl; exact hB; exact rfl)
        | (go_at_call 41; (with_reducible refine (HR.out _ hU).mono ?_); rintro r w1 ⟨rfl, hu1⟩; replace hB := hB.up hu1; replace hU := hU.trans hu1; have hc0 := hB.cell 0 rfl))
      obtain ⟨wS, rfl⟩ : ∃ y, y = w1 := ⟨_, rfl⟩
      clear hc0 hu1 hW0
      go_loopg [6, 23] n (fun g ta ti wr => ∃ i : Nat, i ≤ n ∧ n - i ≤ g ∧ ti = .int .i64 (i : Nat) ∧ OwnW wr wS.heap.size ta (T.take i) ∧ Up wS wr)
      case atStart => exact ⟨0, Nat.zero_le _, by omega, rfl, by rw [List.take_zero]; exact OwnW.nil _ _, Up.refl _⟩
      case round =>
        obtain ⟨i, hi, hig, rfl, hO, hu⟩ := hrel
        by_cases hlt : i < n
        · have e1 : IntKind.i64.wrap ((i : Int) + 1) = (i : Int) + 1 := IntWalk.i64_in _ (by omega)
          obtain ⟨wI, hwI⟩ : ∃ y, wr.alloc (.cells (cells 16 (fun _ => 0)) 33) = y := ⟨_, rfl⟩
          have hRow0 : Row wI wr.heap.size 33 16 (limb (enc (tmS n l x i 0))) := by
            rw [← hwI]; show Blk _ _ _ (cells 16 (limb (enc 0))); rw [← zero_limb]; exact Blk.new _ _ rfl
          have hUI : Up wr wI := by rw [← hwI]; exact Up.alloc _ _
          rw [← zeros16] at hwI
          have hc0 := (hB.up (hu.trans hUI)).cell 0 rfl
          go_wp2_with fail
          obtain ⟨bS, hbS⟩ : ∃ y, wr.heap.size = y := ⟨_, rfl⟩
          rw [hbS] at hRow0 ⊢
          clear hwI hc0
          obtain ⟨wO, hwO⟩ : ∃ y, wr = y := ⟨_, rfl⟩
          rw [hwO] at hO hu hUI hbS
          clear hwO
          go_loopg [28] n (fun g tj wr => ∃ j : Nat, j ≤ n ∧ n - j ≤ g ∧ tj = .int .i64 (j : Nat) ∧ Row wr bS 33 16 (limb (enc (tmS n l x i j))) ∧ Up wO wr)
          case atStart => exact ⟨0, Nat.zero_le _, by omega, rfl, hRow0, hUI⟩
          case round =>
            clear hRow0 hUI
            obtain ⟨j, hj, hjg, rfl, hRow, huj⟩ := hrel
            have hBj := hB.up (hu.trans huj)
            have hc0 := hBj.cell 0 rfl
            by_cases hjlt : j < n
            · have e2 : IntKind.i64.wrap ((j : Int) + 1) = (j : Int) + 1 := IntWalk.i64_in _ (by omega)
              obtain ⟨k, hk, hkl, hke⟩ := HIX.out i j hlt hjlt
              have HXk := hid (fun w => hk ▸ HX.out i j hlt hjlt w)
              obtain ⟨ad, rfl, -⟩ := HCell.out _ (Up.refl w) k hkl
              have hjx : j < x.length := by omega
              obtain ⟨q', cq', xq, _, hcq⟩ := HH.out
              injection xq with y1 y2 y3
              subst y1 y3
              obtain ⟨adx, rfl, -⟩ := hcq j hjx
              have HAd := hid (fun w' (hu : Up w w') => (show w'.cell? (adx.add j) = some (.int .i64 (zth x j)) from by obtain ⟨a2, z1, z2⟩ := hcq j hjx; injection z1 with z1; subst z1; exact hu.cellEq z2))
              have HAl := hid (fun w' (hu : Up w w') => (show w'.cell? (ad.add k) = some (.int .i64 (zth l k)) from by obtain ⟨a2, z1, z2⟩ := HCell.out w' hu k hkl; injection z1 with z1; subst z1; exact z2))
              have hak := Hl64.out k hkl
              have hxj := HI64.out j hjx
              have h64 : In64 [zth l k, zth x j] := by
                intro q hq
                rcases q with _ | _ | q
                · exact hak
                · exact hxj
                · simp at hq; omega
              have epr : prodL [zth l k, zth x j] = zth l k * zth x j := by simp [prodL]
              have HPr := hid (fun v w (hv : Vw w v [zth l k, zth x j]) => epr ▸ product_any hv h64 (show 2 ≤ 10 by decide))
              have eS : tmS n l x i (j + 1) = tmS n l x i j + zth l k * zth x j := by rw [← hke]; rfl
              have hS1 := HS.out i j hlt hj
              have hS2 := HS.out i (j + 1) hlt hjlt
              have hprb : (zth l k * zth x j).natAbs < bp 2 := mul_bp1 (i64_bp hak) (i64_bp hxj)
              have HPl := hid (fun w => plus_sum (w := w) (inR_bp (k := 2) (by omega) hS1) (inR_bp (k := 2) (by omega) hprb) (by rw [← eS]; exact inR_bp (k := 2) (by omega) hS2))
              rw [← eS] at HPl
              clear hcq hk hke hak hxj h64 epr eS hS1 hS2 hprb y2
              unfold wideV at *
              obtain ⟨S2, hS29⟩ : ∃ y, tmS n l x i (j + 1) = y := ⟨_, rfl⟩
              have HS2 := hid hS29
              rw [hS29] at HPl
              clear hS29
              generalize tmS n l x i j = S1 at *
              obtain ⟨pr, hpr⟩ : ∃ z, zth l k * zth x j = z := ⟨_, rfl⟩
              rw [hpr] at HPr HPl
              clear hpr
              generalize zth l k = ak at *
              generalize zth x j = xj at *
              go_wp2_with fail
              refine wp_region_sp (n := 55) 17 [31, 32, 33, 34, 35, 36, 37, 38, 39, 40, 41, 42, 43, 44, 45, 46, 47] [SP.is (.agg (cells 16 (limb (enc S1)))), SP.is (.pointer (some ⟨w.heap.size, 1, none⟩)), SP.is (.slice (some ad) l.length cap), SP.is (.pointer (some ⟨w.heap.size, 0, none⟩)), SP.is (.int .i64 (n : Nat)), SP.is (.int .i64 (i : Nat)), SP.is (.int .i64 (j : Nat)), SP.is (.int .i64 (k : Nat)), SP.is (.pointer (some (ad.add k))), SP.is (.int .i64 ak), SP.is (.slice (some adx) x.length cq), SP.is (.int .i64 (j : Nat)), SP.is (.pointer (some (adx.add j))), SP.is (.int .i64 xj), SP.of (fun v w1 => Vw w1 v [ak, xj]) (fun _ _ _ h hu => Vw.up hu h), SP.is (.agg (cells 16 (limb (enc pr)))), SP.is (.agg (cells 16 (limb (enc S2)))), SP.any] (fun wq => Up wr wq ∧ Row wq bS 33 16 (limb (enc S1)) ∧ Below w.heap.size w wq) (by kernel_rfl) (by rfl) (by kernel_rfl) (by kernel_rfl) (fun _ _ h hu => ⟨(h.1).trans hu, (h.2.1).up hu, below_up (h.2.2) hu⟩) ⟨(by first | exact Up.refl _ | assumption), (by assumption), gUp⟩ (fun ev w9 hS9 i o hne hi hev => ?_) (fun gR wE hq hSE huE => ?_)
              · have ⟨hS1, hS2, hSB⟩ := hS9
                have hcC := hev.const
                have hcF := hev.func
                have hcG := hev.global
                rcases i with _ | _ | _ | _ | _ | _ | _ | _ | _ | _ | _ | _ | _ | _ | _ | _ | _ | _ | i
                · obtain rfl := Option.some.inj (show some _ = some o from hi)
                  have e8 := hev.other 8 (by kernel_rfl)
                  simp [Act.eval] at e8
                  exact leavesR_value (run_ldE undW infoW rfl e8 hS2) rfl
                · obtain rfl := Option.some.inj (show some _ = some o from hi)
                  have e2 := hev.other 2 (by kernel_rfl)
                  simp [Act.eval] at e2
                  exact leavesR_value (u := .pointer (some ⟨w.heap.size, 1, none⟩)) (by first | (go_simp; done) | (go_simp; exact rfl)) rfl
                · obtain rfl := Option.some.inj (show some _ = some o from hi)
                  have e32 : ev (.tmp 32) = (.pointer (some ⟨w.heap.size, 1, none⟩)) := hev.dep 1 32 (by kernel_rfl)
                  have hcx := (hBj.up hS1).cell 1 rfl; exact leavesR_value (u := .slice (some ad) l.length cap) (by go_simp) rfl
                · obtain rfl := Option.some.inj (show some _ = some o from hi)
                  have e2 := hev.other 2 (by kernel_rfl)
                  simp [Act.eval] at e2
                  exact leavesR_value (u := .pointer (some ⟨w.heap.size, 0, none⟩)) (by first | (go_simp; done) | (go_simp; exact rfl)) rfl
                · obtain rfl := Option.some.inj (show some _ = some o from hi)
                  have e34 : ev (.tmp 34) = (.pointer (some ⟨w.heap.size, 0, none⟩)) := hev.dep 3 34 (by kernel_rfl)
                  have hcx := (hBj.up hS1).cell 0 rfl; exact leavesR_value (u := .int .i64 (n : Nat)) (by go_simp) rfl
                · obtain rfl := Option.some.inj (show some _ = some o from hi)
                  have e7 := hev.other 7 (by kernel_rfl)
                  simp [Act.eval] at e7
                  exact leavesR_value (u := .int .i64 (i : Nat)) (by first | (go_simp; done) | (go_simp; exact rfl)) rfl
                · obtain rfl := Option.some.inj (show some _ = some o from hi)
                  have e9 := hev.other 9 (by kernel_rfl)
                  simp [Act.eval] at e9
                  exact leavesR_value (u := .int .i64 (j : Nat)) (by first | (go_simp; done) | (go_simp; exact rfl)) rfl
                · obtain rfl := Option.some.inj (show some _ = some o from hi)
                  have e35 : ev (.tmp 35) = (.int .i64 (n : Nat)) := hev.dep 4 35 (by kernel_rfl)
                  have e36 : ev (.tmp 36) = (.int .i64 (i : Nat)) := hev.dep 5 36 (by kernel_rfl)
                  have e37 : ev (.tmp 37) = (.int .i64 (j : Nat)) := hev.dep 6 37 (by kernel_rfl)
                  refine leavesR_call ?_ ((HXk.out _).mono fun _ _ h => ⟨by rw [h.2]; exact Up.refl _, _, h.1, rfl⟩)
                  go_simp
                · obtain rfl := Option.some.inj (show some _ = some o from hi)
                  have e33 : ev (.tmp 33) = (.slice (some ad) l.length cap) := hev.dep 2 33 (by kernel_rfl)
                  have e38 : ev (.tmp 38) = (.int .i64 (k : Nat)) := hev.dep 7 38 (by kernel_rfl)
                  exact leavesR_value (u := .pointer (some (ad.add k))) (by first | (go_simp; done) | (go_simp; exact rfl)) rfl
                · obtain rfl := Option.some.inj (show some _ = some o from hi)
                  have e39 : ev (.tmp 39) = (.pointer (some (ad.add k))) := hev.dep 8 39 (by kernel_rfl)
                  have hcx := HAl.out w9 (hU.trans (hu.trans (huj.trans hS1))); exact leavesR_value (u := .int .i64 ak) (by go_simp) rfl
                · obtain rfl := Option.some.inj (show some _ = some o from hi)
                  have e1 := hev.other 1 (by kernel_rfl)
                  simp [Act.eval] at e1
                  exact leavesR_value (u := .slice (some adx) x.length cq) (by first | (go_simp; done) | (go_simp; exact rfl)) rfl
                · obtain rfl := Option.some.inj (show some _ = some o from hi)
                  have e9 := hev.other 9 (by kernel_rfl)
                  simp [Act.eval] at e9
                  exact leavesR_value (u := .int .i64 (j : Nat)) (by first | (go_simp; done) | (go_simp; exact rfl)) rfl
                · obtain rfl := Option.some.inj (show some _ = some o from hi)
                  have e41 : ev (.tmp 41) = (.slice (some adx) x.length cq) := hev.dep 10 41 (by kernel_rfl)
                  have e42 : ev (.tmp 42) = (.int .i64 (j : Nat)) := hev.dep 11 42 (by kernel_rfl)
                  exact leavesR_value (u := .pointer (some (adx.add j))) (by first | (go_simp; done) | (go_simp; exact rfl)) rfl
                · obtain rfl := Option.some.inj (show some _ = some o from hi)
                  have e43 : ev (.tmp 43) = (.pointer (some (adx.add j))) := hev.dep 12 43 (by kernel_rfl)
                  have hcx := HAd.out w9 (hU.trans (hu.trans (huj.trans hS1))); exact leavesR_value (u := .int .i64 xj) (by go_simp) rfl
                · obtain rfl := Option.some.inj (show some _ = some o from hi)
                  have e40 : ev (.tmp 40) = (.int .i64 ak) := hev.dep 9 40 (by kernel_rfl)
                  have e44 : ev (.tmp 44) = (.int .i64 xj) := hev.dep 13 44 (by kernel_rfl)
                  exact leavesR_up (u := .slice (some ⟨w9.heap.size, 0, none⟩) 2 2) (w' := w9.alloc (.cells #[.int .i64 ak, .int .i64 xj] 2)) (by go_simp) (Up.alloc _ _) (vw_two w9 ak xj)
                · obtain rfl := Option.some.inj (show some _ = some o from hi)
                  have e45 : (fun v w1 => Vw w1 v [ak, xj]) (ev (.tmp 45)) w9 := hev.dep 14 45 (by kernel_rfl)
                  dsimp only at e45
                  obtain ⟨v45, hv45⟩ : ∃ v, ev (.tmp 45) = v := ⟨_, rfl⟩
                  rw [hv45] at e45
                  refine leavesR_call ?_ ((HPr.out _ _ e45).mono fun _ _ h => ⟨h.2, _, h.1, rfl⟩)
                  go_simp
                · obtain rfl := Option.some.inj (show some _ = some o from hi)
                  have e31 : ev (.tmp 31) = (.agg (cells 16 (limb (enc S1)))) := hev.dep 0 31 (by kernel_rfl)
                  have e46 : ev (.tmp 46) = (.agg (cells 16 (limb (enc pr)))) := hev.dep 15 46 (by kernel_rfl)
                  refine leavesR_call ?_ ((HPl.out _).mono fun _ _ h => ⟨h.2, _, h.1, rfl⟩)
                  go_simp
                · exact absurd rfl hne
                · exact absurd (show i + 18 < 18 from (Array.getElem?_eq_some_iff.1 hi).1) (by omega)
              have ⟨hS1, hS2, hSB⟩ := hSE
              have q0 : gR 31 = (.agg (cells 16 (limb (enc S1)))) := hq 0 31 (by decide) (by kernel_rfl)
              have q1 : gR 32 = (.pointer (some ⟨w.heap.size, 1, none⟩)) := hq 1 32 (by decide) (by kernel_rfl)
              have q2 : gR 33 = (.slice (some ad) l.length cap) := hq 2 33 (by decide) (by kernel_rfl)
              have q3 : gR 34 = (.pointer (some ⟨w.heap.size, 0, none⟩)) := hq 3 34 (by decide) (by kernel_rfl)
              have q4 : gR 35 = (.int .i64 (n : Nat)) := hq 4 35 (by decide) (by kernel_rfl)
              have q5 : gR 36 = (.int .i64 (i : Nat)) := hq 5 36 (by decide) (by kernel_rfl)
              have q6 : gR 37 = (.int .i64 (j : Nat)) := hq 6 37 (by decide) (by kernel_rfl)
              have q7 : gR 38 = (.int .i64 (k : Nat)) := hq 7 38 (by decide) (by kernel_rfl)
              have q8 : gR 39 = (.pointer (some (ad.add k))) := hq 8 39 (by decide) (by kernel_rfl)
              have q9 : gR 40 = (.int .i64 ak) := hq 9 40 (by decide) (by kernel_rfl)
              have q10 : gR 41 = (.slice (some adx) x.length cq) := hq 10 41 (by decide) (by kernel_rfl)
              have q11 : gR 42 = (.int .i64 (j : Nat)) := hq 11 42 (by decide) (by kernel_rfl)
              have q12 : gR 43 = (.pointer (some (adx.add j))) := hq 12 43 (by decide) (by kernel_rfl)
              have q13 : gR 44 = (.int .i64 xj) := hq 13 44 (by decide) (by kernel_rfl)
              have q14 : (fun v w1 => Vw w1 v [ak, xj]) (gR 45) wE := hq 14 45 (by decide) (by kernel_rfl)
              dsimp only at q14
              obtain ⟨v45, hv45⟩ : ∃ v, gR 45 = v := ⟨_, rfl⟩
              rw [hv45] at q14
              have q15 : gR 46 = (.agg (cells 16 (limb (enc pr)))) := hq 15 46 (by decide) (by kernel_rfl)
              have q16 : gR 47 = (.agg (cells 16 (limb (enc S2)))) := hq 16 47 (by decide) (by kernel_rfl)
              refine ⟨fun h => absurd h (by decide), fun o ho => ?_⟩
              obtain rfl := Option.some.inj (show some _ = some o from ho)
              simp only [putL, List.map_cons, List.map_nil, q0, q1, q2, q3, q4, q5, q6, q7, q8, q9, q10, q11, q12, q13, hv45, q15, q16, Act.put, pu1, pu2, pu3]
              clear hq hSE q0 q1 q2 q3 q4 q5 q6 q7 q8 q9 q10 q11 q12 q13 q15 q16
              refine wp_st_rowN infoW rfl _ _ rfl _ rfl rfl hS2 ?_
              have hR9 := hS2.setRow (limb (enc S2))
              have hu9 := (huj.trans hS1)
              have hU9 := below_setRow hu9 (show wO.heap.size ≤ bS by omega) (cells 16 (limb (enc S2)))
              obtain ⟨wK, hwK⟩ : ∃ y, wE.setRow bS (cells 16 (limb (enc S2))) = y := ⟨_, rfl⟩
              rw [hwK] at hR9 hU9 ⊢
              clear hwK hS1 hS2 hSB huE hu9 q14
              go_wp2_with fail
              go_roundg (n - (j + 1))
              case measure => omega
              case rel => exact ⟨j + 1, hjlt, Nat.le_refl _, rfl, by rw [HS2.out]; exact hR9, hU9⟩
            · obtain rfl : j = n := by omega
              have hTs := HTL.out i hlt
              have HT9 := hid hTs
              have hszj := huj.size
              have hszu := hu.size
              have HTk : Hid ((T.take i).length < 1000000) := hid (by rw [List.length_take, HTl.out]; omega)
              clear hTs
              generalize tmS j l x i j = S at *
              go_wp2_with (first
                | ((with_reducible apply ld_rowP undW infoW); exact rfl; exact rfl; exact gRow)
                | ((with_reducible apply bsW_P); exact rfl)
                | ((with_reducible apply appW (l := T.take i) (m := [S])); exact rfl; exact rfl; exact OwnW.up (huj.trans (Up.alloc _ _)) hO; exact one_range rfl; (focus (simp; omega)); exact HTk.out; (focus (simp; done)); rintro v6 w6 hO6 - hb6))
              go_roundg (j - (i + 1))
              case measure => omega
              case rel => exact ⟨i + 1, hlt, Nat.le_refl _, rfl, by rw [HT9.out]; exact hO6, Below.trans ((hu.trans huj).trans (Up.alloc _ _)) hb6⟩
        · obtain rfl : i = n := by omega
          rw [← HTl.out, List.take_length] at hO
          go_wp2_with fail
          go_ret2
          exact ⟨_, _, rfl, hU.trans hu, hO.wv, Errs.none_ _⟩
    · have e : tmC N l x = 23 := by unfold tmC; rw [hR, decide_eq_false hn0]; rfl
      have e2 : tmR N l x = [] := by unfold tmR; rw [e]; rfl
      rw [e, e2]
      have d3 : ((x.length : Int) != N) = true := by simpa using hn0
      clear e e2 hR hc hl hN hI hn0
      go_enter Tryz.func92, Tryz.ntmps92
      go_wp2_with (first
        | ((with_reducible apply ldM_P); exact rfl; exact rfl; exact hB; exact rfl)
        | (go_at_call 41; (with_reducible refine (HR.out _ hU).mono ?_); rintro r w1 ⟨rfl, hu1⟩; replace hB := hB.up hu1; have hc0 := hB.cell 0 rfl)
        | (go_at_call 107; (with_reducible refine (HWR.out _ _).mono ?_); rintro r w2 ⟨t2, u2, rfl, hu2, h2⟩))
      go_ret2
      exact ⟨_, _, rfl, (hU.trans hu1).trans hu2, wv_nil _, Errs.some_ (by decide) h2⟩
theorem undBs : Tryz.prog.underlying 49 = some (.slice 46) := by kernel_rfl
theorem infoBs : (Tryz.prog.info? 46).map (fun i => (i.zero, i.size, i.bytes)) = some (some (.agg #[.bool false, .slice none 0 0]), 2, 32) := by kernel_rfl
def BigAt (w : World) (get : Nat → Option Value) (i : Nat) (z : Int) : Prop :=
  ∃ b a n c, get (i * 2) = some (.bool b) ∧ get (i * 2 + 1) = some (.slice a n c) ∧ Big w (.agg #[.bool b, .slice a n c]) z
theorem BigAt.up {w w' : World} (hu : Up w w') {get : Nat → Option Value} {i : Nat} {z : Int} (h : BigAt w get i z) : BigAt w' get i z := by
  obtain ⟨b, a, n, c, h1, h2, h3⟩ := h
  exact ⟨b, a, n, c, h1, h2, h3.up hu⟩
def OwnB (w : World) (base : Nat) (v : Value) (l : List Int) : Prop :=
  ∃ xs : List Value, w.ownsRow base 46 2 v l.length xs ∧ ∀ i, i < l.length → BigAt w (fun k => xs[k]?) i (zth l i)
theorem OwnB.up {w w' : World} {base : Nat} {v : Value} {l : List Int} (hu : Up w w') (h : OwnB w base v l) : OwnB w' base v l := by
  obtain ⟨xs, h1, h2⟩ := h
  exact ⟨xs, World.ownsRow.up h1 hu, fun i hi => (h2 i hi).up hu⟩
theorem OwnB.nil (w : World) (base : Nat) : OwnB w base (.slice none 0 0) [] := ⟨[], World.ownsRow_nil _ _ _ _, fun _ hi => absurd hi (Nat.not_lt_zero _)⟩
def Bv (w : World) (v : Value) (l : List Int) : Prop :=
  (l = [] ∧ ∃ p c, v = .slice p 0 c) ∨ ∃ g cap C, v = .slice (some ⟨g, 0, none⟩) l.length cap ∧ l.length ≤ cap ∧ Blk w g 46 C ∧ ∀ i, i < l.length → BigAt w (fun k => C[k]?) i (zth l i)
theorem Bv.slice {w : World} {v : Value} {l : List Int} (h : Bv w v l) : ∃ p c, v = .slice p l.length c := by
  rcases h with ⟨rfl, p, c, rfl⟩ | ⟨g, cap, C, rfl, _⟩
  · exact ⟨p, c, rfl⟩
  · exact ⟨_, cap, rfl⟩
theorem Bv.open {w : World} {v : Value} {l : List Int} (h : Bv w v l) (h0 : 0 < l.length) :
    ∃ g cap C, v = .slice (some ⟨g, 0, none⟩) l.length cap ∧ l.length ≤ cap ∧ Blk w g 46 C ∧ ∀ i, i < l.length → BigAt w (fun k => C[k]?) i (zth l i) := by
  rcases h with ⟨rfl, _⟩ | h
  · exact absurd h0 (by decide)
  · exact h
theorem OwnB.open {w : World} {base : Nat} {v : Value} {l : List Int} (h : OwnB w base v l) (h0 : 0 < l.length) :
    ∃ g cap C, v = .slice (some ⟨g, 0, none⟩) l.length cap ∧ base ≤ g ∧ Blk w g 46 C ∧ l.length ≤ cap ∧ cap ≤ maxLen ∧ C.size = cap * 2 ∧ ∀ i, i < l.length → BigAt w (fun k => C[k]?) i (zth l i) := by
  obtain ⟨xs, ⟨_, h1 | ⟨g, cap, cur, hv, hb, hB, hc, hm, hs, ht⟩⟩, h2⟩ := h
  · omega
  · refine ⟨g, cap, cur, hv, hb, hB, hc, hm, hs, fun i hi => ?_⟩
    obtain ⟨b, a, n, c, h3, h4, h5⟩ := h2 i hi
    rw [← ht] at h3 h4
    refine ⟨b, a, n, c, ?_, ?_, h5⟩
    · dsimp only at h3 ⊢; rw [← h3, List.getElem?_take_of_lt (by omega), Array.getElem?_toList]
    · dsimp only at h4 ⊢; rw [← h4, List.getElem?_take_of_lt (by omega), Array.getElem?_toList]
theorem OwnB.bv {w : World} {base : Nat} {v : Value} {l : List Int} (h : OwnB w base v l) : Bv w v l := by
  rcases Nat.eq_zero_or_pos l.length with h0 | h0
  · obtain ⟨xs, ⟨_, ⟨rfl, _⟩ | ⟨g, cap, cur, rfl, _⟩⟩, _⟩ := h
    · exact .inl ⟨List.length_eq_zero_iff.1 h0, _, _, rfl⟩
    · exact .inl ⟨List.length_eq_zero_iff.1 h0, _, _, by rw [h0]⟩
  · obtain ⟨g, cap, C, hv, _, hB, hc, _, _, hE⟩ := h.open h0
    exact .inr ⟨g, cap, C, hv, hc, hB, hE⟩
theorem OwnB.slice {w : World} {base : Nat} {v : Value} {l : List Int} (h : OwnB w base v l) : ∃ p c, v = .slice p l.length c := h.bv.slice
theorem big_zero (w : World) : Big w (.agg #[.bool false, .slice none 0 0]) 0 := ⟨none, 0, by simp [nl_zero], am_nil w⟩
section
variable {a : Act} {w : World} {g off : Nat} {vs : List Value}
theorem bigAt_range {C : Array Value} (hB : Blk w g 46 C) {i : Nat} {b : Bool} {p : Option Addr} {n c : Nat} (h1 : C[i * 2]? = some (.bool b)) (h2 : C[i * 2 + 1]? = some (.slice p n c)) : w.rangeAt g (i * 2) [.bool b, .slice p n c] := by
  intro j v hv
  rcases j with _ | _ | j
  · simp at hv; subst hv; exact hB.cell _ h1
  · simp at hv; subst hv; exact hB.cell _ h2
  · simp at hv
theorem run_ldB2 {o : Oper} {ev : Operand → Value} {x : Operand} {b : Bool} {p : Option Addr} {n c : Nat} (ho : o.op = .load 46 x) (hx : ev x = .pointer (some ⟨g, off, none⟩)) (hC : w.rangeAt g off [.bool b, .slice p n c]) :
    (execOp ev o).run Tryz.prog w = .ok (.value (.agg #[.bool b, .slice p n c])) w := by
  obtain ⟨fs, hfs⟩ := undB
  unfold execOp
  simp only [ho, hx, Instr.loadAt, Instr.sureAddr, Sem.run_bind, Sem.run_pure, Result.andThen_ok, run_loadVar_mid w g off _ _ _ hC hfs rfl (by rw [infoB]; rfl)]
theorem ldB2_P {ops : Array Oper} {rest : List Oper} {Q : Exit → Act → World → Prop} {d : Option Tmp} {s : Tmp} {ty : TypeId} {pos : String} {af : Array Edge} {gd : Option (Nat × Bool)} {b : Bool} {p : Option Addr} {n c : Nat} (hw : Region.wanted { dst := d, op := .load 46 (.tmp s), type := ty, pos := pos, after := af, guard := gd } (yielded ops a.tmps) = true) (hx : a.eval (.tmp s) = .pointer (some ⟨g, off, none⟩))
    (hC : w.rangeAt g off [.bool b, .slice p n c]) (h : wpList Tryz.prog ops Q rest (a.put d (.agg #[.bool b, .slice p n c])) w) : wpList Tryz.prog ops Q ({ dst := d, op := .load 46 (.tmp s), type := ty, pos := pos, after := af, guard := gd } :: rest) a w :=
  wpList_run hw (run_ldB2 rfl hx hC) h
def splB (C : Array Value) (off : Nat) (vs : List Value) : Array Value := (C.toList.take off ++ vs ++ C.toList.drop (off + 2)).toArray
theorem run_svB {C : Array Value} {b : Bool} {p : Option Addr} {n c : Nat} (hB : Blk w g 46 C) (hl : off + 2 ≤ C.size) :
    (storeVar 46 ⟨g, off, none⟩ (.agg #[.bool b, .slice p n c])).run Tryz.prog w = .ok () (w.setRow g (splB C off [.bool b, .slice p n c])) := by
  have hs := run_storeCells_at Tryz.prog g off 46 [.bool b, .slice p n c] 0 C w hB (by simp; omega) (by simp [Value.oneCell'])
  rw [Nat.add_zero] at hs
  unfold splB
  have hi := infoB
  cases hq : Tryz.prog.info? 46 with
  | none => rw [hq] at hi; simp at hi
  | some i =>
    rw [hq] at hi
    have hz : i.size = 2 := by simpa using hi
    have hv : (Value.agg #[.bool b, .slice p n c]).cells.toList = [.bool b, .slice p n c] := rfl
    have hn : (Value.agg #[.bool b, .slice p n c]).cells.size = 2 := rfl
    have hl2 : ([Value.bool b, .slice p n c]).length = 2 := rfl
    rw [hl2] at hs
    simp [storeVar, sizeOf, typeInfo, hq, hz, hv, hn, hs]
theorem wp_stB2 {C : Array Value} {b : Bool} {p : Option Addr} {n c : Nat} {K : Act → World → Prop} {Q : Exit → Act → World → Prop} {o : Oper} (x y : Operand) (ho : o.op = .store 46 x y) (hx : a.eval x = .pointer (some ⟨g, off, none⟩)) (hy : a.eval y = .agg #[.bool b, .slice p n c]) (hB : Blk w g 46 C) (hl : off + 2 ≤ C.size)
    (h : K (a.put o.dst undef) (w.setRow g (splB C off [.bool b, .slice p n c]))) : o.wp Tryz.prog a w K Q := by
  unfold Oper.wp execOp
  simp only [ho, hx, hy, Instr.storeAt, Instr.sureAddr, Sem.run_bind, Sem.run_pure, Result.andThen_ok, run_svB hB hl]
  exact h
end
theorem splB_size {C : Array Value} {off : Nat} {x y : Value} (hl : off + 2 ≤ C.size) : (splB C off [x, y]).size = C.size := by
  unfold splB; simp; omega
theorem splB_get {C : Array Value} {off k : Nat} {x y : Value} (hl : off + 2 ≤ C.size) : (splB C off [x, y])[k]? = if k = off then some x else if k = off + 1 then some y else C[k]? := by
  unfold splB
  have h1 : (C.toList.take off).length = off := by rw [List.length_take, Array.length_toList]; omega
  rw [List.getElem?_toArray]
  rcases Nat.lt_trichotomy k off with h | h | h
  · rw [if_neg (by omega), if_neg (by omega), List.append_assoc, List.getElem?_append_left (by omega), List.getElem?_take_of_lt h, Array.getElem?_toList]
  · subst h
    rw [if_pos rfl, List.append_assoc, List.getElem?_append_right (by omega), h1, Nat.sub_self]
    rfl
  · rw [if_neg (by omega), List.append_assoc, List.getElem?_append_right (by omega), h1]
    by_cases h2 : k = off + 1
    · rw [if_pos h2, h2, show off + 1 - off = 1 by omega]; rfl
    · obtain ⟨d, rfl⟩ : ∃ d, k = off + 2 + d := ⟨k - (off + 2), by omega⟩
      rw [if_neg h2, show off + 2 + d - off = d + 2 by omega]
      show (C.toList.drop (off + 2))[d]? = _
      rw [List.getElem?_drop, Array.getElem?_toList]
theorem Big.grown {w w' : World} {row : Option Nat} {v : Value} {z : Int} (h : Big w v z) (hg : w.grownBy w' row) (hr : ∀ k, row = some k → ∃ C, Blk w k 46 C) : Big w' v z := by
  obtain ⟨a, c, h1, a2, c2, h2, h3, h4⟩ := h
  refine ⟨a, c, h1, a2, c2, h2, h3, fun h0 => ?_⟩
  obtain ⟨b, E, h5, h6, h7⟩ := h4 h0
  refine ⟨b, E, h5, ?_, h7⟩
  unfold Blk
  rw [hg.block b h6.lt ?_]
  · exact h6
  · intro e
    obtain ⟨C, hC⟩ := hr b e.symm
    unfold Blk at hC h6
    rw [hC] at h6
    simp at h6
theorem appB {ops : Array Oper} {rest : List Oper} {Q : Exit → Act → World → Prop} {a : Act} {w : World} {d : Option Tmp} {s u : Operand} {ty : TypeId} {pos : String} {af : Array Edge} {base g c : Nat} {v : Value} {l : List Int} {b : Bool} {p : Option Addr} {m n : Nat} {z : Int}
    (hs : a.eval s = v) (hu : a.eval u = .slice (some ⟨g, 0, none⟩) 1 c) (hown : OwnB w base v l) (hV : w.rangeAt g 0 [.bool b, .slice p m n]) (hb : Big w (.agg #[.bool b, .slice p m n]) z) (hbase : base ≤ w.heap.size) (hl : l.length < 1000000)
    (h : ∀ v' w', OwnB w' base v' (l ++ [z]) → w.grownBy w' v.ownBlock → Below base w w' → wpList Tryz.prog ops Q rest (a.put d v') w') :
    wpList Tryz.prog ops Q ({ dst := d, op := .call { callee := .builtin .append, args := #[s, u], argTypes := #[49, 49] }, type := ty, pos := pos, after := af, guard := none } :: rest) a w := by
  obtain ⟨i0, hi0, he⟩ := Option.map_eq_some_iff.1 infoBs
  simp only [Prod.mk.injEq] at he
  obtain ⟨xs, hx, hE⟩ := hown
  have hlt := World.ownsRow.lt hx
  have hrow : ∀ k, v.ownBlock = some k → ∃ C, Blk w k 46 C := by
    intro k hk
    obtain ⟨_, ⟨rfl, _⟩ | ⟨g', cap, cur, rfl, _, hB, _⟩⟩ := hx
    · simp [Value.ownBlock] at hk
    · simp [Value.ownBlock] at hk; subst hk; exact ⟨cur, hB⟩
  have hxl : xs.length = l.length * 2 := hx.1
  refine wpList_append_own w rfl s u 49 rfl base 46 i0 _ 2 32 undBs hi0 he.1 he.2.1 he.2.2 rfl (by decide) v l.length xs hs hx ⟨g, 0, none⟩ 1 c [.bool b, .slice p m n] hu rfl (fun j y hy => by rw [Addr.add_mid]; exact hV j y hy) (by simp [Value.oneCell']) (by unfold maxLen; omega) (by omega) hbase ?_
  intro v' w' h1 h2 _
  refine h v' w' ⟨xs ++ [.bool b, .slice p m n], by rw [List.length_append]; exact h1, fun i hi => ?_⟩ h2 ⟨h2.os, h2.tape, h2.output, h2.size, fun k hk => h2.block k (by omega) fun e => ?_⟩
  · rw [List.length_append, List.length_singleton] at hi
    by_cases e : i < l.length
    · obtain ⟨b', a', n', c', h3, h4, h5⟩ := hE i e
      have ez : zth (l ++ [z]) i = zth l i := by unfold zth; rw [List.getD_eq_getElem?_getD, List.getD_eq_getElem?_getD, List.getElem?_append_left e]
      rw [ez]
      exact ⟨b', a', n', c', by dsimp only at h3 ⊢; rw [List.getElem?_append_left (by omega)]; exact h3, by dsimp only at h4 ⊢; rw [List.getElem?_append_left (by omega)]; exact h4, h5.grown h2 hrow⟩
    · obtain rfl : i = l.length := by omega
      have ez : zth (l ++ [z]) l.length = z := by unfold zth; rw [List.getD_eq_getElem?_getD, List.getElem?_append_right (Nat.le_refl _), Nat.sub_self]; rfl
      rw [ez]
      exact ⟨b, p, m, n, by dsimp only; rw [List.getElem?_append_right (by omega), hxl, Nat.sub_self]; rfl, by dsimp only; rw [List.getElem?_append_right (by omega), hxl, show l.length * 2 + 1 - l.length * 2 = 1 by omega]; rfl, hb.grown h2 hrow⟩
  · have := hlt k e.symm
    omega
def RInv (w : World) (base bx rs : Nat) (n : Int) (sA : Value) (new old : List Int) (p : Nat) (wr : World) : Prop :=
  OwnI wr base sA (mixed new old p) ∧ (∀ q, q < p → fit (zth new q) = true) ∧ Blk wr bx 24 #[.int .i64 n, sA] ∧ Blk wr rs 24 #[.int .i64 0, .slice none 0 0] ∧ Up w wr
theorem In64.mixed {new old : List Int} (hl : new.length = old.length) (h : In64 old) {p : Nat} (hf : ∀ q, q < p → fit (zth new q) = true) : In64 (mixed new old p) := by
  intro i hi
  rw [mixed_len hl] at hi
  rw [mixed_get hl _ hi]
  split
  · rename_i h1; exact fit_i64 (hf i h1)
  · exact h i hi
theorem OwnI.sm {w : World} {base : Nat} {s : Value} {l : List Int} {N : Int} (h : OwnI w base s l) (hN : I64 N) (hl : In64 l) (hn : l.length ≤ 1000) : Sm w (.agg #[.int .i64 N, s]) N l := ⟨s, rfl, h.vw, hN, hl, hn⟩
set_option maxHeartbeats 8000000 in
theorem rdiag_any {v : Value} {N : Int} {l : List Int} (x : Int) {w : World} (hm : Sm w v N l) (hx : I64 x) :
    Calls Tryz.prog 38 #[v, .int .i64 x] w (RSymPost w (diN N l x) (diR N l x) (diC N l x)) := by
  have HR := hid (fun w' (hu : Up w w') => rright_any (hm.up hu))
  have HCP := hid (fun w' (hu : Up w w') => copy_any (hm.up hu))
  obtain ⟨s, rfl, hV, hN, hl, hlen⟩ := hm
  obtain ⟨p, cap, rfl, hcap, hc⟩ := hV
  obtain ⟨W0, hW0⟩ : ∃ W0, (w.alloc (.cells #[.int .i64 N, .slice p l.length cap] 24)).alloc (.cells #[.int .i64 0, .slice none 0 0] 24) = W0 := ⟨_, rfl⟩
  have hB : Blk W0 w.heap.size 24 #[.int .i64 N, .slice p l.length cap] := by rw [← hW0]; exact (Blk.new _ _ rfl).old _
  have hQ : Blk W0 (w.heap.size + 1) 24 #[.int .i64 0, .slice none 0 0] := by rw [← hW0]; exact Blk.new _ _ (by simp)
  have hU : Up w W0 := by rw [← hW0]; exact (Up.alloc _ _).trans (Up.alloc _ _)
  cases hR : rt N l with
  | false =>
    have e : diC N l x = 23 := by unfold diC; rw [hR]; rfl
    have e2 : diR N l x = [] := by unfold diR; rw [e]; rfl
    have e3 : diN N l x = 0 := by unfold diN; rw [e]; rfl
    rw [e, e2, e3]
    rw [hR] at HR
    clear e e2 e3 hR hc hl hN
    go_enter Tryz.func38, Tryz.ntmps38
    go_wp2_with (first
      | ((with_reducible apply ldM_P); exact rfl; exact rfl; exact hB; exact rfl)
      | (go_at_call 12; (with_reducible refine (HR.out _ hU).mono ?_); rintro r w1 ⟨rfl, hu1⟩; replace hQ := hQ.up hu1)
      | ((with_reducible apply stM_P); exact rfl; exact rfl; exact hQ; exact rfl; exact rfl; exact two2 _ _ _ _ _))
    exact bodyPost_ret (resMs (u := .int .i64 23) rfl rfl rfl (hQ.setRow _) rfl) rfl (RSymPost.err 23 (hU.trans hu1) (by omega))
  | true =>
    rw [hR] at HR
    obtain ⟨n0, n8, htri, _⟩ := rt_spec hR
    obtain ⟨n, rfl⟩ : ∃ n : Nat, N = (n : Int) := ⟨N.toNat, by omega⟩
    rw [tri_nat] at htri
    have n8' : n ≤ 8 := by omega
    have hln : l.length = triN n := by omega
    have eN : ((n : Int)).toNat = n := by omega
    obtain ⟨L', hL'⟩ : ∃ L', diL n l x = L' := ⟨_, rfl⟩
    have HlL : Hid (L'.length = l.length) := hid (by rw [← hL', diL_len])
    have Hat : Hid (∀ i, i < n → zth L' (pos n i i) = zth l (pos n i i) + x) := hid (fun i hi => by rw [← hL', diL_at x n8' hln (Nat.le_refl _) hi, if_pos rfl])
    have Hrow : Hid (∀ i q, i < n → pos n i i + 1 ≤ q → q < pos n (i + 1) (i + 1) → zth L' q = zth l q) := hid (fun i q hi h1 h2 => by rw [← hL']; exact diL_row x n8' hln hi h1 h2)
    have Hfl := hid (rt_spec hR).2.2.2
    obtain ⟨hc9, hd9⟩ : (∀ k, k < L'.length → fit (zth L' k) = false → RSymPost w (diN n l x) (diR n l x) (diC n l x) = RSymPost w 0 [] 21) ∧
        ((∀ k, k < L'.length → fit (zth L' k) = true) → RSymPost w (diN n l x) (diR n l x) (diC n l x) = RSymPost w n L' 0) := by
      refine ⟨fun k hk hf => ?_, fun hf => ?_⟩
      · have e : diC n l x = 21 := by unfold diC; rw [hR, eN, hL', all_no hk hf]; rfl
        unfold diN diR; rw [e]; rfl
      · have e : diC n l x = 0 := by unfold diC; rw [hR, eN, hL', all_yes hf]; rfl
        unfold diN diR; rw [e, if_pos rfl, if_pos rfl, eN, hL']
    have Hbad := hid hc9
    have Hgood := hid hd9
    obtain ⟨PP, hPP⟩ : ∃ PP, RSymPost w (diN n l x) (diR n l x) (diC n l x) = PP := ⟨_, rfl⟩
    rw [hPP] at Hbad Hgood ⊢
    have HN64 := hid hN
    have HLn := hid hln
    have Hl64 := hid hl
    have hx64 := hid hx
    have HOx := hid (fun w => of_big x hx.1 hx.2 w)
    clear hPP hc9 hd9 hL' hc hl hx hR htri hln hN eN hcap n0 n8
    go_enter Tryz.func38, Tryz.ntmps38
    go_wp2_with (first
      | ((with_reducible apply ldM_P); exact rfl; exact rfl; exact hB; exact rfl)
      | (go_at_call 12; (with_reducible refine (HR.out _ hU).mono ?_); rintro r w1 ⟨rfl, hu1⟩; replace hQ := hQ.up hu1; replace hB := hB.up hu1; replace hU := hU.trans hu1)
      | (go_at_call 9; (with_reducible refine (HCP.out _ hU).mono ?_); rintro r w2 ⟨sA, rfl, hu2, hO⟩; have hlt := hB.lt; have hlt2 := hQ.lt; replace hQ := hQ.up hu2; replace hB := hB.up hu2; replace hU := hU.trans hu2; obtain ⟨pA, nA, cA, rfl⟩ := OwnI.slice hO; have hO2 := OwnI.setRow (D := #[.int .i64 (n : Int), .slice pA nA cA]) hO hB; have hB2 := hB.setRow #[.int .i64 (n : Int), .slice pA nA cA]; have hQ2 := Blk.row_other hQ #[.int .i64 (n : Int), .slice pA nA cA] (show w.heap.size + 1 ≠ w.heap.size by omega); have hU2 := below_setRow hU (Nat.le_refl _) #[.int .i64 (n : Int), .slice pA nA cA])
      | ((with_reducible apply stM_P); exact rfl; exact rfl; exact hB; exact rfl; exact rfl; exact two2 _ _ _ _ _))
    obtain ⟨base, hbase⟩ : ∃ b, w1.heap.size = b := ⟨_, rfl⟩
    have hbs : w.heap.size + 1 < base := by omega
    rw [hbase] at hO2
    clear hbase hlt hlt2 hu1 hu2 hO hB hQ hU
    go_loopg [6] n (fun g ti wr => ∃ i : Nat, i ≤ n ∧ n - i ≤ g ∧ ti = .int .i64 (i : Nat) ∧ RInv w base w.heap.size (w.heap.size + 1) n (.slice pA nA cA) L' l (pos n i i) wr)
    case atStart => exact ⟨0, Nat.zero_le _, by omega, rfl, by rw [pos_zero, mixed_zero]; exact hO2, fun q hq => by rw [pos_zero] at hq; omega, hB2, hQ2, hU2⟩
    case round =>
      clear hB2 hQ2 hU2 hO2
      obtain ⟨i, hi, hig, rfl, hO, hfits, hB, hQ, hU⟩ := hrel
      have hc0 := hB.cell 0 rfl
      by_cases hlt : i < n
      · have e1 : IntKind.i64.wrap ((i : Int) + 1) = (i : Int) + 1 := IntWalk.i64_in _ (by omega)
        have hkl : pos n i i < l.length := by rw [HLn.out]; exact pos_lt (Nat.le_refl _) hlt
        have hM64 := In64.mixed HlL.out Hl64.out hfits
        have HSm := hid (hO.sm HN64.out hM64 (by rw [mixed_len HlL.out]; exact hlen))
        have HAt := hid (fun w' (hu : Up wr w') => rat_ent2 (HSm.out.up hu) n8' (by rw [mixed_len HlL.out]; exact HLn.out) (Nat.le_refl i) hlt)
        have hat := Hat.out i hlt
        have HX := hid (fun w => (pos_idx (Nat.le_refl i) hlt) ▸ rat_any (n : Int) (i : Int) (i : Int) (by omega) (by omega) (by omega) (by omega) (by omega) w)
        have Hro := hid (fun q => Hrow.out i q hlt)
        have HP := hid (pos_row hlt)
        have HFit := hid hfits
        have HPS : Hid (pos n i i + 1 ≤ pos n (i + 1) (i + 1) ∧ pos n (i + 1) (i + 1) ≤ l.length) := hid (by rw [HLn.out]; have := pos_row hlt; unfold pos at *; omega)
        obtain ⟨k, hk⟩ : ∃ k, pos n i i = k := ⟨_, rfl⟩
        have HK := hid hk
        rw [hk] at hkl HAt hat hO HX Hro HFit HPS
        obtain ⟨g, cp, C, hv, hbg, -⟩ := hO.open (by rw [mixed_len HlL.out]; omega)
        injection hv with x1 x2 x3
        rw [mixed_len HlL.out] at x2
        subst x1 x2 x3
        have hmx : zth (mixed L' l k) k = zth l k := mixed_at HlL.out hkl
        rw [hmx] at HAt
        have hak := Hl64.out k hkl
        have HOk := hid (fun w => of_big (zth l k) hak.1 hak.2 w)
        have n1 := nl_bp (by omega) (i64_bp hak)
        have n2 := nl_bp (by omega) (i64_bp hx64.out)
        have n3 : nl (zth l k + x).natAbs < 50000 := nl_bp (k := 2) (by omega) (by
          have b1 := i64_bp hak
          have b2 := i64_bp hx64.out
          have b3 : bp 2 = bp 1 * 18446744073709551616 := bp_succ 1
          have b4 := bp_pos 1
          omega)
        rw [← hat] at n3
        have HS9 := hid (mixed_set HlL.out hkl)
        have HML := hid (mixed_len HlL.out k)
        have HAD := hid (fun (va vb : Value) (w : World) (ha : Big w va (zth l k)) (hb : Big w vb x) => hat ▸ add_big ha hb n1 n2)
        clear hat n1 n2 hak hk hM64 hfits
        obtain ⟨z9, hz9'⟩ : ∃ z, zth L' k = z := ⟨_, rfl⟩
        have HZ9 := hid hz9'
        rw [hz9'] at HS9 n3 HAD
        clear hz9' hmx
        generalize zth l k = ak at *
        obtain ⟨M, hM9⟩ : ∃ M, mixed L' l k = M := ⟨_, rfl⟩
        rw [hM9] at hO HS9 HML
        clear hM9 HSm
        have hkM : k < M.length := by rw [HML.out]; exact hkl
        have HN3 := hid n3
        clear n3
        cases hf : fit z9 with
        | false =>
          have HF9 := hid (fun (va : Value) (w : World) (hb : Big w va z9) => hf ▸ rfits_any hb HN3.out)
          have Hf := hid hf
          clear hf
          go_wp2_with (first
            | ((with_reducible apply ldM_P); exact rfl; exact rfl; exact hB; exact rfl)
            | ((with_reducible apply stB_P); exact rfl; exact rfl; exact gBlk; exact rfl; exact rfl; exact one2 _ _ _ _)
            | ((with_reducible apply ldB_P); exact rfl; exact rfl; exact gBlk; exact rfl)
            | (go_at_call 22; (with_reducible refine (HAt.out _ (Up.refl _)).mono ?_); rintro r w3 ⟨rfl, hu3⟩)
            | (go_at_call 37; first
                | ((with_reducible refine (HOk.out _).mono ?_); rintro r w4 ⟨hu4, u4, rfl, hb4⟩)
                | ((with_reducible refine (HOx.out _).mono ?_); rintro r w5 ⟨hu5, u5, rfl, hb5⟩))
            | (go_at_call 72; (with_reducible refine (HAD.out _ _ _ (hb4.up hu5) hb5).mono ?_); rintro r w6 ⟨hu6, u6, rfl, hb6⟩; obtain ⟨bb, ba, bn, bc, rfl⟩ := hb6.shape; have hu36 := ((hu3.trans hu4).trans hu5).trans hu6; have hBg := (Blk.new (w := w6) (b := w6.heap.size) 46 #[.bool false, .slice none 0 0] rfl).setRow #[.bool bb, .slice ba bn bc]; have hbg6 : Big _ _ z9 := big_set (D := #[.bool bb, .slice ba bn bc]) (Blk.new (w := w6) (b := w6.heap.size) 46 #[.bool false, .slice none 0 0] rfl) (big_alloc hb6); have hu6X := hu36.trans (below_setRow (Up.alloc w6 (.cells #[.bool false, .slice none 0 0] 46)) (Nat.le_refl _) #[.bool bb, .slice ba bn bc]))
            | (go_at_call 68; (with_reducible refine (HF9.out _ _ hbg6).mono ?_); rintro r w7 ⟨rfl, hu7⟩; replace hQ := (hQ.up hu6X).up hu7)
            | ((with_reducible apply stM_P); exact rfl; exact rfl; exact hQ; exact rfl; exact rfl; exact two2 _ _ _ _ _))
          rw [Hbad.out k (by rw [HlL.out]; exact hkl) (by rw [HZ9.out]; exact Hf.out)]
          exact bodyPost_ret (resMs (u := .int .i64 21) rfl rfl rfl (hQ.setRow _) rfl) rfl (RSymPost.err 21 ((hU.trans hu6X).trans hu7) (by omega))
        | true =>
          have HF9 := hid (fun (va : Value) (w : World) (hb : Big w va z9) => hf ▸ rfits_any hb HN3.out)
          have Hf := hid hf
          have HIn := hid (fun (va : Value) (w : World) (hb : Big w va z9) => (i64V_yes (fit_i64 hf)) ▸ int64_big hb HN3.out)
          clear hf
          go_wp2_with (first
            | ((with_reducible apply ldM_P); exact rfl; exact rfl; exact hB; exact rfl)
            | ((with_reducible apply stB_P); exact rfl; exact rfl; exact gBlk; exact rfl; exact rfl; exact one2 _ _ _ _)
            | ((with_reducible apply ldB_P); exact rfl; exact rfl; exact gBlk; exact rfl)
            | (go_at_call 22; (with_reducible refine (HAt.out _ (Up.refl _)).mono ?_); rintro r w3 ⟨rfl, hu3⟩)
            | (go_at_call 37; first
                | ((with_reducible refine (HOk.out _).mono ?_); rintro r w4 ⟨hu4, u4, rfl, hb4⟩)
                | ((with_reducible refine (HOx.out _).mono ?_); rintro r w5 ⟨hu5, u5, rfl, hb5⟩))
            | (go_at_call 72; (with_reducible refine (HAD.out _ _ _ (hb4.up hu5) hb5).mono ?_); rintro r w6 ⟨hu6, u6, rfl, hb6⟩; obtain ⟨bb, ba, bn, bc, rfl⟩ := hb6.shape; have hu36 := ((hu3.trans hu4).trans hu5).trans hu6; have hBg := (Blk.new (w := w6) (b := w6.heap.size) 46 #[.bool false, .slice none 0 0] rfl).setRow #[.bool bb, .slice ba bn bc]; have hbg6 : Big _ _ z9 := big_set (D := #[.bool bb, .slice ba bn bc]) (Blk.new (w := w6) (b := w6.heap.size) 46 #[.bool false, .slice none 0 0] rfl) (big_alloc hb6); have hu6X := hu36.trans (below_setRow (Up.alloc w6 (.cells #[.bool false, .slice none 0 0] 46)) (Nat.le_refl _) #[.bool bb, .slice ba bn bc]))
            | (go_at_call 68; (with_reducible refine (HF9.out _ _ hbg6).mono ?_); rintro r w7 ⟨rfl, hu7⟩; replace hQ := (hQ.up hu6X).up hu7; replace hB := (hB.up hu6X).up hu7; replace hO := (hO.up hu6X).up hu7; replace hbg6 := hbg6.up hu7; replace hBg := hBg.up hu7; replace hU := (hU.trans hu6X).trans hu7))
          have hq0 := hB.cell 0 rfl
          have hq1 := hB.cell 1 rfl
          obtain ⟨b7, hb7⟩ : ∃ b, w6.heap.size = b := ⟨_, rfl⟩
          rw [hb7] at hBg
          rw [hb7]
          clear hb7 hu36 hu6X hu3 hu4 hu5 hu6 hb4 hb5 hb6 hc0
          refine opU (S := (fun wq => Blk wq w.heap.size 24 #[.int .i64 (n : Int), .slice (some ⟨g, 0, none⟩) l.length cA] ∧ wq.cell? ⟨w.heap.size, 0, none⟩ = some (.int .i64 (n : Int)) ∧ wq.cell? ⟨w.heap.size, 1, none⟩ = some (.slice (some ⟨g, 0, none⟩) l.length cA) ∧ Blk wq b7 46 #[.bool bb, .slice ba bn bc] ∧ Big wq (.agg #[.bool bb, .slice ba bn bc]) z9 ∧ OwnI wq base (.slice (some ⟨g, 0, none⟩) l.length cA) M ∧ Blk wq (w.heap.size + 1) 24 #[.int .i64 0, .slice none 0 0] ∧ Below w.heap.size w wq)) (req := (fun j => j != 13)) (fun _ _ h hu => ⟨(h.1).up hu, hu.cell (h.2.1), hu.cell (h.2.2.1), (h.2.2.2.1).up hu, (h.2.2.2.2.1).up hu, (h.2.2.2.2.2.1).up hu, (h.2.2.2.2.2.2.1).up hu, below_up (h.2.2.2.2.2.2.2) hu⟩) ⟨gBlk, (by first | assumption | (apply Blk.cell; exact gBlk; exact rfl)), (by first | assumption | (apply Blk.cell; exact gBlk; exact rfl)), gBlk, (by (repeat (first | assumption | ((with_reducible apply big_set); exact gBlk) | (with_reducible apply big_alloc) | ((with_reducible apply big_up); assumption))); done), (by assumption), gBlk, gUp⟩ (fun wS hSS hSu => ?_)
          have ⟨hS1, hS2, hS3, hS4, hS5, hS6, hS7, hSB⟩ := hSS
          refine tkP 0 (some 33) hSu ?_
          refine tkT 1 (some 34) rfl hSu hSS ?_ (hy := fun w' hSw => by ((try dsimp only at hSw); (try obtain ⟨_, _, _, _, _, _, _, _⟩ := hSw); go_simp; (try exact rfl)))
          refine tkP 2 (some 35) hSu ?_
          refine tkT 3 (some 36) rfl hSu hSS ?_ (hy := fun w' hSw => by ((try dsimp only at hSw); (try obtain ⟨_, _, _, _, _, _, _, _⟩ := hSw); go_simp; (try exact rfl)))
          refine tkP 4 (some 37) hSu ?_
          refine tkP 5 (some 38) hSu ?_
          refine tkC 6 (some 39) rfl hSu hSS ?_ (hy := fun w' hSw => ((HX.out _).mono fun _ _ h => ⟨h.1, by rw [h.2]; exact Up.refl _⟩))
          refine tkT 7 (some 40) rfl hSu hSS ?_ (hy := fun w' hSw => run_ldB rfl rfl hSw.2.2.2.1 rfl)
          refine tkC 8 (some 41) rfl hSu hSS ?_ (hy := fun w' hSw => (HIn.out _ _ hSw.2.2.2.2.1))
          refine tkP 9 (some 32) hSu ?_
          refine tkP 10 (some 42) hSu ?_
          refine tkP 11 (some 43) hSu ?_
          refine tkP 12 (some 44) hSu ?_
          refine wpAnyU_one (i := 13) rfl (by kernel_rfl) (by rfl) fun wZ hwZ => ?_
          obtain ⟨hcW, hfW⟩ := (hS6.up hwZ).cells hkM
          go_simp
          clear hcW hfW
          refine wpAnyU_done (by kernel_rfl) (fun wF huE => ?_) _
          have hne1 : w.heap.size ≠ g := by omega
          have hne2 : w.heap.size + 1 ≠ g := by omega
          have hO5 := ((hS6.up hwZ).set hkM z9).up huE
          rw [HS9.out, mixed_same HlL.out HPS.out.1 HPS.out.2 (fun q h1 h2 => Hro.out q h1 h2)] at hO5
          have hB5 := ((hS1.up hwZ).other ⟨g, k, none⟩ (.int .i64 z9) hne1).up huE
          have hQ5 := ((hS7.up hwZ).other ⟨g, k, none⟩ (.int .i64 z9) hne2).up huE
          have hU5 := below_up ((below_up hSB hwZ).setCell (p := ⟨g, k, none⟩) (show w.heap.size ≤ g by omega) (.int .i64 z9)) huE
          have HFF : Hid (∀ q, q < pos n (i + 1) (i + 1) → fit (zth L' q) = true) := hid (fun q hq => by
            rcases Nat.lt_trichotomy q k with h1 | h1 | h1
            · exact HFit.out q h1
            · rw [h1, HZ9.out]; exact Hf.out
            · rw [Hro.out q h1 hq]; exact Hfl.out q (by have := HPS.out.2; omega))
          clear hq0 hq1 hwZ
          go_wp2_with fail
          go_roundg (n - (i + 1))
          case measure => omega
          case rel => exact ⟨i + 1, by omega, Nat.le_refl _, rfl, hO5, HFF.out, hB5, hQ5, hU5⟩
      · obtain rfl : i = n := by omega
        rw [pos_end, ← HLn.out, ← HlL.out] at hO hfits
        rw [mixed_all HlL.out] at hO
        have HI := hid (In64.of_fit hfits)
        have HG := hid (Hgood.out hfits)
        clear hfits hlt
        go_wp2_with (first
          | ((with_reducible apply ldM_P); exact rfl; exact rfl; exact hB; exact rfl)
          | ((with_reducible apply stM_P); exact rfl; exact rfl; exact hQ; exact rfl; exact rfl; exact two2 _ _ _ _ _))
        rw [HG.out]
        exact bodyPost_ret (resMs (u := .int .i64 0) rfl rfl rfl (hQ.setRow _) rfl) rfl (RSymPost.ok hU (by omega) hQ hO HN64.out HI.out (by rw [HlL.out]; exact hlen))
theorem blk_ne {w : World} {b b' : Nat} {t t' : TypeId} {C C' : Array Value} (h : Blk w b t C) (h' : Blk w b' t' C') (hne : t ≠ t') : b ≠ b' := by
  rintro rfl
  unfold Blk at h h'
  rw [h] at h'
  injection h' with h'
  injection h' with _ ht
  exact hne ht
theorem OwnI.setRowB {w : World} {base g : Nat} {v : Value} {l : List Int} {C D : Array Value} (h : OwnI w base v l) (hg : Blk w g 46 C) : OwnI (w.setRow g D) base v l := by
  refine ⟨h.1, ?_⟩
  rcases h.2 with h2 | ⟨b, cap, cur, h1, h2, h3, h4⟩
  · exact .inl h2
  · exact .inr ⟨b, cap, cur, h1, h2, Blk.row_other (t := 2) h3 D (blk_ne (t := 2) h3 hg (by decide)), h4⟩
theorem run_ldME {ev : Operand → Value} {w : World} {g : Nat} {C : Array Value} {o : Oper} {x : Operand} (ho : o.op = .load 24 x) (hx : ev x = .pointer (some ⟨g, 0, none⟩)) (hC : Blk w g 24 C) (h2 : C.size = 2) : (execOp ev o).run Tryz.prog w = .ok (.value (.agg C)) w := by
  obtain ⟨fs, hu⟩ := undM
  unfold execOp
  simp only [ho, hx, Instr.loadAt, Instr.sureAddr, Sem.run_bind, Sem.run_pure, Result.andThen_ok, run_loadVar_row w g _ 24 C (0, 0) _ hC hu rfl (by rw [infoM, h2])]
set_option maxHeartbeats 16000000 in
theorem router_any {v hv : Value} {N : Int} {l h : List Int} (x : Int) {w : World} (hm : Sm w v N l) (hh : Vw w hv h) (hx : I64 x) (hI : In64 h) (hh3 : h.length ≤ 1000) :
    Calls Tryz.prog 40 #[v, .int .i64 x, hv] w (RSymPost w (ouN N l x h) (ouR N l x h) (ouC N l x h)) := by
  have HR := hid (fun w' (hu : Up w w') => rright_any (hm.up hu))
  have HCP := hid (fun w' (hu : Up w w') => copy_any (hm.up hu))
  obtain ⟨s, rfl, hV, hN, hl, hlen⟩ := hm
  obtain ⟨p, cap, rfl, hcap, hc⟩ := hV
  have HH := hid hh
  obtain ⟨q, cq, rfl, _⟩ := hh
  obtain ⟨W0, hW0⟩ : ∃ W0, (w.alloc (.cells #[.int .i64 N, .slice p l.length cap] 24)).alloc (.cells #[.int .i64 0, .slice none 0 0] 24) = W0 := ⟨_, rfl⟩
  have hB : Blk W0 w.heap.size 24 #[.int .i64 N, .slice p l.length cap] := by rw [← hW0]; exact (Blk.new _ _ rfl).old _
  have hQ : Blk W0 (w.heap.size + 1) 24 #[.int .i64 0, .slice none 0 0] := by rw [← hW0]; exact Blk.new _ _ (by simp)
  have hU : Up w W0 := by rw [← hW0]; exact (Up.alloc _ _).trans (Up.alloc _ _)
  cases hR : rt N l with
  | false =>
    have e : ouC N l x h = 23 := by unfold ouC; rw [hR]; rfl
    have e2 : ouR N l x h = [] := by unfold ouR; rw [e]; rfl
    have e3 : ouN N l x h = 0 := by unfold ouN; rw [e]; rfl
    rw [e, e2, e3]
    rw [hR] at HR
    clear e e2 e3 hR hc hl hN hI
    go_enter Tryz.func40, Tryz.ntmps40
    go_wp2_with (first
      | ((with_reducible apply ldM_P); exact rfl; exact rfl; exact hB; exact rfl)
      | (go_at_call 12; (with_reducible refine (HR.out _ hU).mono ?_); rintro r w1 ⟨rfl, hu1⟩; replace hQ := hQ.up hu1)
      | ((with_reducible apply stM_P); exact rfl; exact rfl; exact hQ; exact rfl; exact rfl; exact two2 _ _ _ _ _))
    exact bodyPost_ret (resMs (u := .int .i64 23) rfl rfl rfl (hQ.setRow _) rfl) rfl (RSymPost.err 23 (hU.trans hu1) (by omega))
  | true =>
    rw [hR] at HR
    by_cases hn0 : (h.length : Int) = N
    · obtain ⟨n, rfl⟩ : ∃ n : Nat, N = (n : Int) := ⟨h.length, hn0.symm⟩
      obtain ⟨_, n8, htri, _⟩ := rt_spec hR
      rw [tri_nat] at htri
      have n8' : n ≤ 8 := by omega
      have hln : l.length = triN n := by omega
      have hhn : h.length = n := by omega
      have d3 : ((h.length : Int) != (n : Int)) = false := by rw [hn0]; simp
      have eN : ((n : Int)).toNat = n := by omega
      have HLn := hid hln
      have HhL := hid hhn
      have HI64 := hid hI
      have Hl64 := hid hl
      have hx64 := hid hx
      have HO := hid (fun v (hv : I64 v) w => of_big v hv.1 hv.2 w)
      obtain ⟨L', hL'⟩ : ∃ L', ouL n l x h = L' := ⟨_, rfl⟩
      have HlL : Hid (L'.length = l.length) := hid (by rw [← hL', ouL_len])
      have Hat : Hid (∀ i j, i ≤ j → j < n → zth L' (pos n i j) = zth l (pos n i j) + x * zth h i * zth h j) := hid (fun i j hij hj => by rw [← hL']; exact ouL_at x h n8' hln hij hj)
      obtain ⟨hc9, hd9⟩ : (∀ k, k < L'.length → fit (zth L' k) = false → RSymPost w (ouN n l x h) (ouR n l x h) (ouC n l x h) = RSymPost w 0 [] 21) ∧
          ((∀ k, k < L'.length → fit (zth L' k) = true) → RSymPost w (ouN n l x h) (ouR n l x h) (ouC n l x h) = RSymPost w n L' 0) := by
        refine ⟨fun k hk hf => ?_, fun hf => ?_⟩
        · have e : ouC n l x h = 21 := by unfold ouC; rw [hR, decide_eq_true hn0, eN, hL', all_no hk hf]; rfl
          unfold ouN ouR; rw [e]; rfl
        · have e : ouC n l x h = 0 := by unfold ouC; rw [hR, decide_eq_true hn0, eN, hL', all_yes hf]; rfl
          unfold ouN ouR; rw [e, if_pos rfl, if_pos rfl, eN, hL']
      have Hbad := hid hc9
      have Hgood := hid hd9
      obtain ⟨PP, hPP⟩ : ∃ PP, RSymPost w (ouN n l x h) (ouR n l x h) (ouC n l x h) = PP := ⟨_, rfl⟩
      rw [hPP] at Hbad Hgood ⊢
      have HN64 := hid hN
      clear hPP hc9 hd9 hL' hc hl hI hx hR hn0 htri hln hhn hN eN hcap
      go_enter Tryz.func40, Tryz.ntmps40
      go_wp2_with (first
        | ((with_reducible apply ldM_P); exact rfl; exact rfl; exact hB; exact rfl)
        | (go_at_call 12; (with_reducible refine (HR.out _ hU).mono ?_); rintro r w1 ⟨rfl, hu1⟩; replace hQ := hQ.up hu1; replace hB := hB.up hu1; replace hU := hU.trans hu1; have hc0 := hB.cell 0 rfl)
        | (go_at_call 9; (with_reducible refine (HCP.out _ hU).mono ?_); rintro r w2 ⟨sA, rfl, hu2, hO⟩; have hlt := hB.lt; have hlt2 := hQ.lt; replace hQ := hQ.up hu2; replace hB := hB.up hu2; replace hU := hU.trans hu2; obtain ⟨pA, nA, cA, rfl⟩ := OwnI.slice hO; have hO2 := OwnI.setRow (D := #[.int .i64 (n : Int), .slice pA nA cA]) hO hB; have hB2 := hB.setRow #[.int .i64 (n : Int), .slice pA nA cA]; have hQ2 := Blk.row_other hQ #[.int .i64 (n : Int), .slice pA nA cA] (show w.heap.size + 1 ≠ w.heap.size by omega); have hU2 := below_setRow hU (Nat.le_refl _) #[.int .i64 (n : Int), .slice pA nA cA])
        | ((with_reducible apply stM_P); exact rfl; exact rfl; exact hB; exact rfl; exact rfl; exact two2 _ _ _ _ _))
      obtain ⟨base, hbase⟩ : ∃ b, w1.heap.size = b := ⟨_, rfl⟩
      have hbs : w.heap.size + 1 < base := by omega
      rw [hbase] at hO2
      clear hbase hlt hlt2 hu1 hu2 hO hB hQ hU hc0 hW0
      go_loopg [8] n (fun g ti wr => ∃ i : Nat, i ≤ n ∧ n - i ≤ g ∧ ti = .int .i64 (i : Nat) ∧ RInv w base w.heap.size (w.heap.size + 1) n (.slice pA nA cA) L' l (pos n i i) wr)
      case atStart => exact ⟨0, Nat.zero_le _, by omega, rfl, by rw [pos_zero, mixed_zero]; exact hO2, fun q hq => by rw [pos_zero] at hq; omega, hB2, hQ2, hU2⟩
      case round =>
        clear hB2 hQ2 hU2 hO2
        obtain ⟨i, hi, hig, rfl, hO, hfits, hB, hQ, hU⟩ := hrel
        have hc0 := hB.cell 0 rfl
        by_cases hlt : i < n
        · have e1 : IntKind.i64.wrap ((i : Int) + 1) = (i : Int) + 1 := IntWalk.i64_in _ (by omega)
          go_wp2_with fail
          go_loopg [9] n (fun g tj wj => ∃ j : Nat, i ≤ j ∧ j ≤ n ∧ n - j ≤ g ∧ tj = .int .i64 (j : Nat) ∧ RInv w base w.heap.size (w.heap.size + 1) n (.slice pA nA cA) L' l (pos n i j) wj)
          case atStart => exact ⟨i, Nat.le_refl _, hi, by omega, rfl, hO, hfits, hB, hQ, hU⟩
          case round =>
            clear hO hfits hB hQ hU hc0
            obtain ⟨j, hij, hj, hjg, rfl, hO, hfits, hB, hQ, hU⟩ := hrel
            have hc0 := hB.cell 0 rfl
            by_cases hjlt : j < n
            · have hkl : pos n i j < l.length := by rw [HLn.out]; exact pos_lt hij hjlt
              have hM64 := In64.mixed HlL.out Hl64.out hfits
              have HSm := hid (hO.sm HN64.out hM64 (by rw [mixed_len HlL.out]; exact hlen))
              have HAt := hid (fun w' (hu : Up wr w') => rat_ent2 (HSm.out.up hu) n8' (by rw [mixed_len HlL.out]; exact HLn.out) hij hjlt)
              have hat := Hat.out i j hij hjlt
              have HX := hid (fun w => (pos_idx hij hjlt) ▸ rat_any (n : Int) (i : Int) (j : Int) (by omega) (by omega) (by omega) (by omega) (by omega) w)
              have HFit := hid hfits
              obtain ⟨k, hk⟩ : ∃ k, pos n i j = k := ⟨_, rfl⟩
              have HK := hid hk
              rw [hk] at hkl HAt hat hO HX HFit
              obtain ⟨g, cp, C, hv, hbg, -⟩ := hO.open (by rw [mixed_len HlL.out]; omega)
              injection hv with x1 x2 x3
              rw [mixed_len HlL.out] at x2
              subst x1 x2 x3
              have hihl : i < h.length := by rw [HhL.out]; exact hlt
              have hjhl : j < h.length := by rw [HhL.out]; exact hjlt
              obtain ⟨q', cq', xq, _, hcq⟩ := HH.out
              injection xq with y1 y2 y3
              subst y1 y3
              obtain ⟨ad, rfl, _⟩ := hcq i hihl
              have HAd := hid (fun w' (hu : Up w w') (i : Nat) (hi : i < h.length) => (show w'.cell? (ad.add i) = some (.int .i64 (zth h i)) from by obtain ⟨a2, z1, z2⟩ := hcq i hi; injection z1 with z1; subst z1; exact hu.cellEq z2))
              have hmx : zth (mixed L' l k) k = zth l k := mixed_at HlL.out hkl
              rw [hmx] at HAt
              have hak := Hl64.out k hkl
              have hzi := HI64.out i hihl
              have hzj := HI64.out j hjhl
              have b0 := i64_bp hak
              have b1 := i64_bp hx64.out
              have b2 := i64_bp hzi
              have b3 := i64_bp hzj
              have b4 : (zth h i * zth h j).natAbs < bp 2 := by rw [Int.natAbs_mul, bp_add 1 1]; exact Nat.mul_lt_mul'' b2 b3
              have b5 : (x * (zth h i * zth h j)).natAbs < bp 3 := by rw [Int.natAbs_mul, bp_add 1 2]; exact Nat.mul_lt_mul'' b1 b4
              have hat' : zth L' k = zth l k + x * (zth h i * zth h j) := by rw [hat, Int.mul_assoc]
              have b6 : (zth L' k).natAbs < bp 4 := by
                rw [hat']
                have c1 : bp 4 = bp 3 * 18446744073709551616 := bp_succ 3
                have c2 : bp 1 ≤ bp 3 := bp_mono (by omega)
                omega
              have n0 := nl_bp (by omega) b0
              have n1 := nl_bp (by omega) b1
              have n2 := nl_bp (by omega) b2
              have n3 := nl_bp (by omega) b3
              have n4 := nl_bp (by omega) b4
              have n5 := nl_bp (by omega) b5
              have HN3 := hid (nl_bp (by omega) b6)
              have HOk := hid (HO.out (zth l k) hak)
              have HOx := hid (HO.out x hx64.out)
              have HOi := hid (HO.out (zth h i) hzi)
              have HOj := hid (HO.out (zth h j) hzj)
              have HM1 := hid (fun (va vb : Value) (w : World) (ha : Big w va (zth h i)) (hb : Big w vb (zth h j)) => mul_big ha hb n2 n3)
              have HM2 := hid (fun (va vb : Value) (w : World) (ha : Big w va x) (hb : Big w vb (zth h i * zth h j)) => mul_big ha hb n1 n4)
              have HAD := hid (fun (va vb : Value) (w : World) (ha : Big w va (zth l k)) (hb : Big w vb (x * (zth h i * zth h j))) => hat' ▸ add_big ha hb n0 n5)
              have HS9 := hid (mixed_set HlL.out hkl)
              have HML := hid (mixed_len HlL.out k)
              clear hat hat' n0 n1 n2 n3 n4 n5 b0 b1 b2 b3 b4 b5 b6 hak hzi hzj hk hM64 hfits hcq y2 hmx HSm
              obtain ⟨z9, hz9'⟩ : ∃ z, zth L' k = z := ⟨_, rfl⟩
              have HZ9 := hid hz9'
              rw [hz9'] at HS9 HN3 HAD
              clear hz9'
              obtain ⟨p2, hp2⟩ : ∃ z, x * (zth h i * zth h j) = z := ⟨_, rfl⟩
              rw [hp2] at HM2 HAD
              clear hp2
              obtain ⟨p1, hp1⟩ : ∃ z, zth h i * zth h j = z := ⟨_, rfl⟩
              rw [hp1] at HM1 HM2
              clear hp1
              obtain ⟨zi, hzi9⟩ : ∃ z, zth h i = z := ⟨_, rfl⟩
              obtain ⟨zj, hzj9⟩ : ∃ z, zth h j = z := ⟨_, rfl⟩
              have HZi := hid hzi9
              have HZj := hid hzj9
              rw [hzi9, hzj9] at HM1
              rw [hzi9] at HOi
              rw [hzj9] at HOj
              clear hzi9 hzj9
              generalize zth l k = ak at *
              obtain ⟨M, hM9⟩ : ∃ M, mixed L' l k = M := ⟨_, rfl⟩
              rw [hM9] at hO HS9 HML
              clear hM9
              have hkM : k < M.length := by rw [HML.out]; exact hkl
              have hVh := Vw.up hU HH.out
              go_wp2_with fail
              refine wp_region_sp (n := 75) 21 [37, 38, 39, 40, 41, 42, 43, 44, 45, 46, 47, 48, 49, 50, 51, 52, 53, 54, 55, 56, 10] [SP.is (.agg #[.int .i64 (n : Int), .slice (some ⟨g, 0, none⟩) l.length cA]), SP.is (.int .i64 (i : Nat)), SP.is (.int .i64 (j : Nat)), SP.is (.int .i64 ak), SP.of (fun v w1 => Big w1 v ak) (fun _ _ _ h hu => h.up hu), SP.is (.int .i64 x), SP.of (fun v w1 => Big w1 v x) (fun _ _ _ h hu => h.up hu), SP.is (.slice (some ad) h.length cq), SP.is (.int .i64 (i : Nat)), SP.is (.pointer (some (ad.add i))), SP.is (.int .i64 zi), SP.of (fun v w1 => Big w1 v zi) (fun _ _ _ h hu => h.up hu), SP.is (.slice (some ad) h.length cq), SP.is (.int .i64 (j : Nat)), SP.is (.pointer (some (ad.add j))), SP.is (.int .i64 zj), SP.of (fun v w1 => Big w1 v zj) (fun _ _ _ h hu => h.up hu), SP.of (fun v w1 => Big w1 v p1) (fun _ _ _ h hu => h.up hu), SP.of (fun v w1 => Big w1 v p2) (fun _ _ _ h hu => h.up hu), SP.of (fun v w1 => Big w1 v z9) (fun _ _ _ h hu => h.up hu), SP.of (fun v w1 => ∃ b, v = .pointer (some ⟨b, 0, none⟩) ∧ w.heap.size ≤ b ∧ Blk w1 b 46 #[.bool false, .slice none 0 0]) (fun _ _ _ h hu => h.imp fun _ k => ⟨k.1, k.2.1, k.2.2.up hu⟩), SP.any] (fun wq => Blk wq w.heap.size 24 #[.int .i64 (n : Int), .slice (some ⟨g, 0, none⟩) l.length cA] ∧ Up wr wq ∧ Below w.heap.size w wq) (by kernel_rfl) (by rfl) (by kernel_rfl) (by kernel_rfl) (fun _ _ h hu => ⟨(h.1).up hu, (h.2.1).trans hu, below_up (h.2.2) hu⟩) ⟨(by first | assumption | exact gBlk), (by first | exact Up.refl _ | assumption), gUp⟩ (fun ev w9 hS9 i o hne hi hev => ?_) (fun gR wE hq hSE huE => ?_)
              · have ⟨hS1, hS2, hSB⟩ := hS9
                have hcC := hev.const
                have hcF := hev.func
                have hcG := hev.global
                rcases i with _ | _ | _ | _ | _ | _ | _ | _ | _ | _ | _ | _ | _ | _ | _ | _ | _ | _ | _ | _ | _ | _ | i
                · obtain rfl := Option.some.inj (show some _ = some o from hi)
                  have e3 := hev.other 3 (by kernel_rfl)
                  simp [Act.eval] at e3
                  exact leavesR_value (run_ldME rfl e3 hS1 rfl) rfl
                · obtain rfl := Option.some.inj (show some _ = some o from hi)
                  have e8 := hev.other 8 (by kernel_rfl)
                  simp [Act.eval] at e8
                  exact leavesR_value (u := .int .i64 (i : Nat)) (by first | (go_simp; done) | (go_simp; exact rfl)) rfl
                · obtain rfl := Option.some.inj (show some _ = some o from hi)
                  have e9 := hev.other 9 (by kernel_rfl)
                  simp [Act.eval] at e9
                  exact leavesR_value (u := .int .i64 (j : Nat)) (by first | (go_simp; done) | (go_simp; exact rfl)) rfl
                · obtain rfl := Option.some.inj (show some _ = some o from hi)
                  have e37 : ev (.tmp 37) = (.agg #[.int .i64 (n : Int), .slice (some ⟨g, 0, none⟩) l.length cA]) := hev.dep 0 37 (by kernel_rfl)
                  have e38 : ev (.tmp 38) = (.int .i64 (i : Nat)) := hev.dep 1 38 (by kernel_rfl)
                  have e39 : ev (.tmp 39) = (.int .i64 (j : Nat)) := hev.dep 2 39 (by kernel_rfl)
                  refine leavesR_call ?_ ((HAt.out _ hS2).mono fun _ _ h => ⟨h.2, _, h.1, rfl⟩)
                  go_simp
                · obtain rfl := Option.some.inj (show some _ = some o from hi)
                  have e40 : ev (.tmp 40) = (.int .i64 ak) := hev.dep 3 40 (by kernel_rfl)
                  refine leavesR_call ?_ (HOk.out _)
                  go_simp
                · obtain rfl := Option.some.inj (show some _ = some o from hi)
                  have e1 := hev.other 1 (by kernel_rfl)
                  simp [Act.eval] at e1
                  exact leavesR_value (u := .int .i64 x) (by first | (go_simp; done) | (go_simp; exact rfl)) rfl
                · obtain rfl := Option.some.inj (show some _ = some o from hi)
                  have e42 : ev (.tmp 42) = (.int .i64 x) := hev.dep 5 42 (by kernel_rfl)
                  refine leavesR_call ?_ (HOx.out _)
                  go_simp
                · obtain rfl := Option.some.inj (show some _ = some o from hi)
                  have e2 := hev.other 2 (by kernel_rfl)
                  simp [Act.eval] at e2
                  exact leavesR_value (u := .slice (some ad) h.length cq) (by first | (go_simp; done) | (go_simp; exact rfl)) rfl
                · obtain rfl := Option.some.inj (show some _ = some o from hi)
                  have e8 := hev.other 8 (by kernel_rfl)
                  simp [Act.eval] at e8
                  exact leavesR_value (u := .int .i64 (i : Nat)) (by first | (go_simp; done) | (go_simp; exact rfl)) rfl
                · obtain rfl := Option.some.inj (show some _ = some o from hi)
                  have e44 : ev (.tmp 44) = (.slice (some ad) h.length cq) := hev.dep 7 44 (by kernel_rfl)
                  have e45 : ev (.tmp 45) = (.int .i64 (i : Nat)) := hev.dep 8 45 (by kernel_rfl)
                  exact leavesR_value (u := .pointer (some (ad.add i))) (by first | (go_simp; done) | (go_simp; exact rfl)) rfl
                · obtain rfl := Option.some.inj (show some _ = some o from hi)
                  have e46 : ev (.tmp 46) = (.pointer (some (ad.add i))) := hev.dep 9 46 (by kernel_rfl)
                  have hcx := HAd.out w9 hSB i hihl; rw [HZi.out] at hcx; exact leavesR_value (u := .int .i64 zi) (by go_simp) rfl
                · obtain rfl := Option.some.inj (show some _ = some o from hi)
                  have e47 : ev (.tmp 47) = (.int .i64 zi) := hev.dep 10 47 (by kernel_rfl)
                  refine leavesR_call ?_ (HOi.out _)
                  go_simp
                · obtain rfl := Option.some.inj (show some _ = some o from hi)
                  have e2 := hev.other 2 (by kernel_rfl)
                  simp [Act.eval] at e2
                  exact leavesR_value (u := .slice (some ad) h.length cq) (by first | (go_simp; done) | (go_simp; exact rfl)) rfl
                · obtain rfl := Option.some.inj (show some _ = some o from hi)
                  have e9 := hev.other 9 (by kernel_rfl)
                  simp [Act.eval] at e9
                  exact leavesR_value (u := .int .i64 (j : Nat)) (by first | (go_simp; done) | (go_simp; exact rfl)) rfl
                · obtain rfl := Option.some.inj (show some _ = some o from hi)
                  have e49 : ev (.tmp 49) = (.slice (some ad) h.length cq) := hev.dep 12 49 (by kernel_rfl)
                  have e50 : ev (.tmp 50) = (.int .i64 (j : Nat)) := hev.dep 13 50 (by kernel_rfl)
                  exact leavesR_value (u := .pointer (some (ad.add j))) (by first | (go_simp; done) | (go_simp; exact rfl)) rfl
                · obtain rfl := Option.some.inj (show some _ = some o from hi)
                  have e51 : ev (.tmp 51) = (.pointer (some (ad.add j))) := hev.dep 14 51 (by kernel_rfl)
                  have hcx := HAd.out w9 hSB j hjhl; rw [HZj.out] at hcx; exact leavesR_value (u := .int .i64 zj) (by go_simp) rfl
                · obtain rfl := Option.some.inj (show some _ = some o from hi)
                  have e52 : ev (.tmp 52) = (.int .i64 zj) := hev.dep 15 52 (by kernel_rfl)
                  refine leavesR_call ?_ (HOj.out _)
                  go_simp
                · obtain rfl := Option.some.inj (show some _ = some o from hi)
                  have e48 : (fun v w1 => Big w1 v zi) (ev (.tmp 48)) w9 := hev.dep 11 48 (by kernel_rfl)
                  dsimp only at e48
                  obtain ⟨v48, hv48⟩ : ∃ v, ev (.tmp 48) = v := ⟨_, rfl⟩
                  rw [hv48] at e48
                  have e53 : (fun v w1 => Big w1 v zj) (ev (.tmp 53)) w9 := hev.dep 16 53 (by kernel_rfl)
                  dsimp only at e53
                  obtain ⟨v53, hv53⟩ : ∃ v, ev (.tmp 53) = v := ⟨_, rfl⟩
                  rw [hv53] at e53
                  refine leavesR_call ?_ (HM1.out _ _ _ e48 e53)
                  go_simp
                · obtain rfl := Option.some.inj (show some _ = some o from hi)
                  have e43 : (fun v w1 => Big w1 v x) (ev (.tmp 43)) w9 := hev.dep 6 43 (by kernel_rfl)
                  dsimp only at e43
                  obtain ⟨v43, hv43⟩ : ∃ v, ev (.tmp 43) = v := ⟨_, rfl⟩
                  rw [hv43] at e43
                  have e54 : (fun v w1 => Big w1 v p1) (ev (.tmp 54)) w9 := hev.dep 17 54 (by kernel_rfl)
                  dsimp only at e54
                  obtain ⟨v54, hv54⟩ : ∃ v, ev (.tmp 54) = v := ⟨_, rfl⟩
                  rw [hv54] at e54
                  refine leavesR_call ?_ (HM2.out _ _ _ e43 e54)
                  go_simp
                · obtain rfl := Option.some.inj (show some _ = some o from hi)
                  have e41 : (fun v w1 => Big w1 v ak) (ev (.tmp 41)) w9 := hev.dep 4 41 (by kernel_rfl)
                  dsimp only at e41
                  obtain ⟨v41, hv41⟩ : ∃ v, ev (.tmp 41) = v := ⟨_, rfl⟩
                  rw [hv41] at e41
                  have e55 : (fun v w1 => Big w1 v p2) (ev (.tmp 55)) w9 := hev.dep 18 55 (by kernel_rfl)
                  dsimp only at e55
                  obtain ⟨v55, hv55⟩ : ∃ v, ev (.tmp 55) = v := ⟨_, rfl⟩
                  rw [hv55] at e55
                  refine leavesR_call ?_ (HAD.out _ _ _ e41 e55)
                  go_simp
                · obtain rfl := Option.some.inj (show some _ = some o from hi)
                  exact leavesR_up (u := .pointer (some ⟨w9.heap.size, 0, none⟩)) (w' := w9.alloc (.cells #[.bool false, .slice none 0 0] 46)) (by go_simp) (Up.alloc _ _) ⟨_, rfl, hSB.size, Blk.new _ _ rfl⟩
                · exact absurd rfl hne
                · exact absurd (show i + 22 < 22 from (Array.getElem?_eq_some_iff.1 hi).1) (by omega)
              have ⟨hS1, hS2, hSB⟩ := hSE
              have q0 : gR 37 = (.agg #[.int .i64 (n : Int), .slice (some ⟨g, 0, none⟩) l.length cA]) := hq 0 37 (by decide) (by kernel_rfl)
              have q1 : gR 38 = (.int .i64 (i : Nat)) := hq 1 38 (by decide) (by kernel_rfl)
              have q2 : gR 39 = (.int .i64 (j : Nat)) := hq 2 39 (by decide) (by kernel_rfl)
              have q3 : gR 40 = (.int .i64 ak) := hq 3 40 (by decide) (by kernel_rfl)
              have q4 : (fun v w1 => Big w1 v ak) (gR 41) wE := hq 4 41 (by decide) (by kernel_rfl)
              dsimp only at q4
              obtain ⟨v41, hv41⟩ : ∃ v, gR 41 = v := ⟨_, rfl⟩
              rw [hv41] at q4
              have q5 : gR 42 = (.int .i64 x) := hq 5 42 (by decide) (by kernel_rfl)
              have q6 : (fun v w1 => Big w1 v x) (gR 43) wE := hq 6 43 (by decide) (by kernel_rfl)
              dsimp only at q6
              obtain ⟨v43, hv43⟩ : ∃ v, gR 43 = v := ⟨_, rfl⟩
              rw [hv43] at q6
              have q7 : gR 44 = (.slice (some ad) h.length cq) := hq 7 44 (by decide) (by kernel_rfl)
              have q8 : gR 45 = (.int .i64 (i : Nat)) := hq 8 45 (by decide) (by kernel_rfl)
              have q9 : gR 46 = (.pointer (some (ad.add i))) := hq 9 46 (by decide) (by kernel_rfl)
              have q10 : gR 47 = (.int .i64 zi) := hq 10 47 (by decide) (by kernel_rfl)
              have q11 : (fun v w1 => Big w1 v zi) (gR 48) wE := hq 11 48 (by decide) (by kernel_rfl)
              dsimp only at q11
              obtain ⟨v48, hv48⟩ : ∃ v, gR 48 = v := ⟨_, rfl⟩
              rw [hv48] at q11
              have q12 : gR 49 = (.slice (some ad) h.length cq) := hq 12 49 (by decide) (by kernel_rfl)
              have q13 : gR 50 = (.int .i64 (j : Nat)) := hq 13 50 (by decide) (by kernel_rfl)
              have q14 : gR 51 = (.pointer (some (ad.add j))) := hq 14 51 (by decide) (by kernel_rfl)
              have q15 : gR 52 = (.int .i64 zj) := hq 15 52 (by decide) (by kernel_rfl)
              have q16 : (fun v w1 => Big w1 v zj) (gR 53) wE := hq 16 53 (by decide) (by kernel_rfl)
              dsimp only at q16
              obtain ⟨v53, hv53⟩ : ∃ v, gR 53 = v := ⟨_, rfl⟩
              rw [hv53] at q16
              have q17 : (fun v w1 => Big w1 v p1) (gR 54) wE := hq 17 54 (by decide) (by kernel_rfl)
              dsimp only at q17
              obtain ⟨v54, hv54⟩ : ∃ v, gR 54 = v := ⟨_, rfl⟩
              rw [hv54] at q17
              have q18 : (fun v w1 => Big w1 v p2) (gR 55) wE := hq 18 55 (by decide) (by kernel_rfl)
              dsimp only at q18
              obtain ⟨v55, hv55⟩ : ∃ v, gR 55 = v := ⟨_, rfl⟩
              rw [hv55] at q18
              have q19 : (fun v w1 => Big w1 v z9) (gR 56) wE := hq 19 56 (by decide) (by kernel_rfl)
              dsimp only at q19
              obtain ⟨v56, hv56⟩ : ∃ v, gR 56 = v := ⟨_, rfl⟩
              rw [hv56] at q19
              have q20 : (fun v w1 => ∃ b, v = .pointer (some ⟨b, 0, none⟩) ∧ w.heap.size ≤ b ∧ Blk w1 b 46 #[.bool false, .slice none 0 0]) (gR 10) wE := hq 20 10 (by decide) (by kernel_rfl)
              dsimp only at q20
              obtain ⟨v10, hv10⟩ : ∃ v, gR 10 = v := ⟨_, rfl⟩
              rw [hv10] at q20
              refine ⟨fun h => absurd h (by decide), fun o ho => ?_⟩
              obtain rfl := Option.some.inj (show some _ = some o from ho)
              simp only [putL, List.map_cons, List.map_nil, q0, q1, q2, q3, hv41, q5, hv43, q7, q8, q9, q10, hv48, q12, q13, q14, q15, hv53, hv54, hv55, hv56, hv10, Act.put, pu1, pu2, pu3]
              clear hq hSE q0 q1 q2 q3 q5 q7 q8 q9 q10 q12 q13 q14 q15
              obtain ⟨b7, rfl, hb7, hBz⟩ := q20
              obtain ⟨bb, ba, bn, bc, rfl⟩ := q19.shape
              refine wp_stB rfl rfl rfl rfl hBz rfl rfl (one2 _ _ _ _) ?_
              have hB7 := Blk.row_other (hB.up huE) #[.bool bb, .slice ba bn bc] (blk_ne (hB.up huE) hBz (by decide))
              have hQ7 := Blk.row_other (hQ.up huE) #[.bool bb, .slice ba bn bc] (blk_ne (hQ.up huE) hBz (by decide))
              have hO7 := OwnI.setRowB (D := #[.bool bb, .slice ba bn bc]) (hO.up huE) hBz
              have hU7 := below_setRow (hU.trans huE) hb7 #[.bool bb, .slice ba bn bc]
              have hBg := hBz.setRow #[.bool bb, .slice ba bn bc]
              have hbg6 := big_set (D := #[.bool bb, .slice ba bn bc]) hBz q19
              obtain ⟨wK, hwK⟩ : ∃ wK, wE.setRow b7 #[.bool bb, .slice ba bn bc] = wK := ⟨_, rfl⟩
              rw [hwK] at hB7 hQ7 hO7 hU7 hBg hbg6 ⊢
              clear hwK hBz q19 q17 q18 q16 q11 q6 q4 hS1 hS2 hSB huE hB hQ hO hU hc0 hVh
              cases hf : fit z9 with
              | false =>
                have HF9 := hid (fun (va : Value) (w : World) (hb : Big w va z9) => hf ▸ rfits_any hb HN3.out)
                have Hf := hid hf
                clear hf
                go_wp2_with (first
                  | ((with_reducible apply ldB_P); exact rfl; exact rfl; exact hBg; exact rfl)
                  | (go_at_call 68; (with_reducible refine (HF9.out _ _ hbg6).mono ?_); rintro r w7 ⟨rfl, hu7⟩; replace hQ7 := hQ7.up hu7)
                  | ((with_reducible apply stM_P); exact rfl; exact rfl; exact hQ7; exact rfl; exact rfl; exact two2 _ _ _ _ _))
                rw [Hbad.out k (by rw [HlL.out]; exact hkl) (by rw [HZ9.out]; exact Hf.out)]
                exact bodyPost_ret (resMs (u := .int .i64 21) rfl rfl rfl (hQ7.setRow _) rfl) rfl (RSymPost.err 21 (below_up hU7 hu7) (by omega))
              | true =>
                have HF9 := hid (fun (va : Value) (w : World) (hb : Big w va z9) => hf ▸ rfits_any hb HN3.out)
                have Hf := hid hf
                have HIn := hid (fun (va : Value) (w : World) (hb : Big w va z9) => (i64V_yes (fit_i64 hf)) ▸ int64_big hb HN3.out)
                clear hf
                go_wp2_with (first
                  | ((with_reducible apply ldB_P); exact rfl; exact rfl; exact hBg; exact rfl)
                  | (go_at_call 68; (with_reducible refine (HF9.out _ _ hbg6).mono ?_); rintro r w7 ⟨rfl, hu7⟩; replace hQ7 := hQ7.up hu7; replace hB7 := hB7.up hu7; replace hO7 := hO7.up hu7; replace hbg6 := hbg6.up hu7; replace hBg := hBg.up hu7; replace hU7 := below_up hU7 hu7))
                have hq0 := hB7.cell 0 rfl
                have hq1 := hB7.cell 1 rfl
                refine opU (S := (fun wq => Blk wq w.heap.size 24 #[.int .i64 (n : Int), .slice (some ⟨g, 0, none⟩) l.length cA] ∧ wq.cell? ⟨w.heap.size, 0, none⟩ = some (.int .i64 (n : Int)) ∧ wq.cell? ⟨w.heap.size, 1, none⟩ = some (.slice (some ⟨g, 0, none⟩) l.length cA) ∧ Blk wq b7 46 #[.bool bb, .slice ba bn bc] ∧ Big wq (.agg #[.bool bb, .slice ba bn bc]) z9 ∧ OwnI wq base (.slice (some ⟨g, 0, none⟩) l.length cA) M ∧ Blk wq (w.heap.size + 1) 24 #[.int .i64 0, .slice none 0 0] ∧ Below w.heap.size w wq)) (req := (fun j => j != 13)) (fun _ _ h hu => ⟨(h.1).up hu, hu.cell (h.2.1), hu.cell (h.2.2.1), (h.2.2.2.1).up hu, (h.2.2.2.2.1).up hu, (h.2.2.2.2.2.1).up hu, (h.2.2.2.2.2.2.1).up hu, below_up (h.2.2.2.2.2.2.2) hu⟩) ⟨gBlk, (by first | assumption | (apply Blk.cell; exact gBlk; exact rfl)), (by first | assumption | (apply Blk.cell; exact gBlk; exact rfl)), gBlk, (by (repeat (first | assumption | ((with_reducible apply big_set); exact gBlk) | (with_reducible apply big_alloc) | ((with_reducible apply big_up); assumption))); done), (by assumption), gBlk, gUp⟩ (fun wS hSS hSu => ?_)
                have ⟨hS1, hS2, hS3, hS4, hS5, hS6, hS7, hSB⟩ := hSS
                refine tkP 0 (some 62) hSu ?_
                refine tkT 1 (some 63) rfl hSu hSS ?_ (hy := fun w' hSw => by ((try dsimp only at hSw); (try obtain ⟨_, _, _, _, _, _, _, _⟩ := hSw); go_simp; (try exact rfl)))
                refine tkP 2 (some 64) hSu ?_
                refine tkT 3 (some 65) rfl hSu hSS ?_ (hy := fun w' hSw => by ((try dsimp only at hSw); (try obtain ⟨_, _, _, _, _, _, _, _⟩ := hSw); go_simp; (try exact rfl)))
                refine tkP 4 (some 66) hSu ?_
                refine tkP 5 (some 67) hSu ?_
                refine tkC 6 (some 68) rfl hSu hSS ?_ (hy := fun w' hSw => ((HX.out _).mono fun _ _ h => ⟨h.1, by rw [h.2]; exact Up.refl _⟩))
                refine tkT 7 (some 69) rfl hSu hSS ?_ (hy := fun w' hSw => run_ldB rfl rfl hSw.2.2.2.1 rfl)
                refine tkC 8 (some 70) rfl hSu hSS ?_ (hy := fun w' hSw => (HIn.out _ _ hSw.2.2.2.2.1))
                refine tkP 9 (some 61) hSu ?_
                refine tkP 10 (some 71) hSu ?_
                refine tkP 11 (some 72) hSu ?_
                refine tkP 12 (some 73) hSu ?_
                refine wpAnyU_one (i := 13) rfl (by kernel_rfl) (by rfl) fun wZ hwZ => ?_
                obtain ⟨hcW, hfW⟩ := (hS6.up hwZ).cells hkM
                go_simp
                clear hcW hfW
                refine wpAnyU_done (by kernel_rfl) (fun wF huE => ?_) _
                have hne1 : w.heap.size ≠ g := by omega
                have hne2 : w.heap.size + 1 ≠ g := by omega
                have hO5 := ((hS6.up hwZ).set hkM z9).up huE
                rw [HS9.out] at hO5
                have hB5 := ((hS1.up hwZ).other ⟨g, k, none⟩ (.int .i64 z9) hne1).up huE
                have hQ5 := ((hS7.up hwZ).other ⟨g, k, none⟩ (.int .i64 z9) hne2).up huE
                have hU5 := below_up ((below_up hSB hwZ).setCell (p := ⟨g, k, none⟩) (show w.heap.size ≤ g by omega) (.int .i64 z9)) huE
                clear hq0 hq1 hwZ
                go_wp2_with fail
                go_roundg (n - (j + 1))
                case measure => omega
                case rel => exact ⟨j + 1, by omega, by omega, Nat.le_refl _, rfl, by rw [pos_succ hij, HK.out]; exact ⟨hO5, fun q hq => by rcases Nat.lt_succ_iff_lt_or_eq.1 hq with h1 | h1; exact HFit.out q h1; rw [h1, HZ9.out]; exact Hf.out, hB5, hQ5, hU5⟩⟩
            · obtain rfl : j = n := by omega
              have HP := hid (pos_row hlt)
              go_wp2_with fail
              go_roundg (j - (i + 1))
              case measure => omega
              case rel => exact ⟨i + 1, hlt, Nat.le_refl _, rfl, by rw [← HP.out]; exact ⟨hO, hfits, hB, hQ, hU⟩⟩
        · obtain rfl : i = n := by omega
          rw [pos_end, ← HLn.out, ← HlL.out] at hO hfits
          rw [mixed_all HlL.out] at hO
          have HI := hid (In64.of_fit hfits)
          have HG := hid (Hgood.out hfits)
          clear hfits hlt
          go_wp2_with (first
            | ((with_reducible apply ldM_P); exact rfl; exact rfl; exact hB; exact rfl)
            | ((with_reducible apply stM_P); exact rfl; exact rfl; exact hQ; exact rfl; exact rfl; exact two2 _ _ _ _ _))
          rw [HG.out]
          exact bodyPost_ret (resMs (u := .int .i64 0) rfl rfl rfl (hQ.setRow _) rfl) rfl (RSymPost.ok hU (by omega) hQ hO HN64.out HI.out (by rw [HlL.out]; exact hlen))
    · have e : ouC N l x h = 23 := by unfold ouC; rw [hR, decide_eq_false hn0]; rfl
      have e2 : ouR N l x h = [] := by unfold ouR; rw [e]; rfl
      have e3 : ouN N l x h = 0 := by unfold ouN; rw [e]; rfl
      rw [e, e2, e3]
      have d3 : ((h.length : Int) != N) = true := by simpa using hn0
      clear e e2 e3 hR hc hl hN hI hn0
      go_enter Tryz.func40, Tryz.ntmps40
      go_wp2_with (first
        | ((with_reducible apply ldM_P); exact rfl; exact rfl; exact hB; exact rfl)
        | (go_at_call 12; (with_reducible refine (HR.out _ hU).mono ?_); rintro r w1 ⟨rfl, hu1⟩; replace hQ := hQ.up hu1; replace hB := hB.up hu1; have hc0 := hB.cell 0 rfl)
        | ((with_reducible apply stM_P); exact rfl; exact rfl; exact hQ; exact rfl; exact rfl; exact two2 _ _ _ _ _))
      exact bodyPost_ret (resMs (u := .int .i64 23) rfl rfl rfl (hQ.setRow _) rfl) rfl (RSymPost.err 23 (hU.trans hu1) (by omega))
def Vh (w : World) (v : Value) (l : List Int) : Prop :=
  ∃ p cap, v = .slice p l.length cap ∧ ∀ i, i < l.length → ∃ a, p = some a ∧ w.cell? (a.add i) = some (.int .i16 (zth l i))
def In16 (l : List Int) : Prop := ∀ i, i < l.length → -32768 ≤ zth l i ∧ zth l i < 32768
theorem rt_zero : rt 0 [] = true := by decide
theorem rt_of {N : Int} {l l' : List Int} (h : rt N l = true) (hl : l'.length = l.length) (hf : l'.all fit = true) : rt N l' = true := by
  obtain ⟨h1, h2, h3, _⟩ := rt_spec h
  rw [rt_yes ⟨h1, h2, by rw [hl]; exact h3⟩]
  exact hf
theorem di_rt (N : Int) (l : List Int) (x : Int) : rt (diN N l x) (diR N l x) = true := by
  unfold diN diR
  by_cases h : diC N l x = 0
  · rw [if_pos h, if_pos h]
    unfold diC at h
    cases hr : rt N l with
    | false => rw [hr] at h; simp at h
    | true =>
      rw [hr] at h
      cases hf : (diL N.toNat l x).all fit with
      | false => rw [hf] at h; simp at h
      | true => exact rt_of hr (diL_len _ _ _) hf
  · rw [if_neg h, if_neg h]; exact rt_zero
theorem ou_rt (N : Int) (l : List Int) (x : Int) (h : List Int) : rt (ouN N l x h) (ouR N l x h) = true := by
  unfold ouN ouR
  by_cases h0 : ouC N l x h = 0
  · rw [if_pos h0, if_pos h0]
    unfold ouC at h0
    cases hr : rt N l with
    | false => rw [hr] at h0; simp at h0
    | true =>
      rw [hr, Bool.true_and] at h0
      split at h0
      · cases hf : (ouL N.toNat l x h).all fit with
        | false => rw [hf] at h0; simp at h0
        | true => exact rt_of hr (ouL_len _ _ _ _) hf
      · simp at h0
  · rw [if_neg h0, if_neg h0]; exact rt_zero
theorem vw_one (w : World) (a : Int) : Vw (w.alloc (.cells #[.int .i64 a] 2)) (.slice (some ⟨w.heap.size, 0, none⟩) 1 1) [a] := by
  refine ⟨_, 1, rfl, ⟨Nat.le_refl _, fun e => by cases e⟩, fun i hi => ⟨_, rfl, ?_⟩⟩
  rcases i with _ | i
  · simp [zth, Addr.add]
  · simp at hi
theorem In64.snoc {l : List Int} (h : In64 l) {z : Int} (hz : I64 z) : In64 (l ++ [z]) := by
  intro i hi
  rcases Nat.lt_or_ge i l.length with h1 | h1
  · have e : zth (l ++ [z]) i = zth l i := by rw [zth_get hi, List.getElem_append_left h1, ← zth_get h1]
    rw [e]; exact h i h1
  · have e : zth (l ++ [z]) i = z := by
      rw [zth_get hi, List.getElem_append_right h1]
      simp
    rw [e]; exact hz
def SeatPost (w : World) (r : Ending) (w' : World) : Prop := ∃ z N L, r = .returned z ∧ Up w w' ∧ SmO w' z N L ∧ rt N L = true
def MInv (K b : Nat) (w : World) : Prop := ∃ N s L, Blk w b 24 #[.int .i64 N, s] ∧ SmO w (.agg #[.int .i64 N, s]) N L ∧ rt N L = true ∧ N ≤ (K : Int)
def SeatFit (K : Nat) (w : World) (r : Ending) (w' : World) : Prop := ∃ z N L, r = .returned z ∧ Up w w' ∧ SmO w' z N L ∧ rt N L = true ∧ N ≤ (K : Int)
set_option maxHeartbeats 8000000 in
theorem seat_fit {v : Value} {hs : List Int} (n d : Nat) {w : World} (_ : n < 256) (_ : d < 65536) (hv : Vh w v hs) (h16 : In16 hs) (h60 : hs.length ≤ 60) :
    Calls Tryz.prog 8 #[.int .u8 (n : Nat), .int .u16 (d : Nat), v] w (SeatFit (n % 7) w) := by
  obtain ⟨k, hk⟩ : ∃ r, n % 7 = r := ⟨_, rfl⟩
  rw [hk]
  obtain ⟨dd, hdd⟩ : ∃ r, d % 5000 = r := ⟨_, rfl⟩
  have rk : (n : Int).tmod 7 = (k : Nat) := by rw [show (7 : Int) = ((7 : Nat) : Int) from rfl, ← Int.ofNat_tmod, hk]
  have rd : (d : Int).tmod 5000 = (dd : Nat) := by rw [show (5000 : Int) = ((5000 : Nat) : Int) from rfl, ← Int.ofNat_tmod, hdd]
  have lk : k < 7 := by omega
  have ld : dd < 5000 := by omega
  have ek : IntKind.i64.wrap (k : Int) = (k : Nat) := IntWalk.i64_in _ (by omega)
  have ed : IntKind.i64.wrap (dd : Int) = (dd : Nat) := IntWalk.i64_in _ (by omega)
  have Hhv := hid hv
  have H16 := hid h16
  obtain ⟨p, cap, rfl, hc⟩ := hv
  have HC := hid (fun w' (hu : Up w w') (i : Nat) (hi : i < hs.length) => (show ∃ a, p = some a ∧ w'.cell? (a.add i) = some (.int .i16 (zth hs i)) from by obtain ⟨a, h1, h2⟩ := hc i hi; exact ⟨a, h1, hu.cellEq h2⟩))
  clear hk hdd hc h16
  obtain ⟨W0, hW0⟩ : ∃ W0, w.alloc (.cells #[.int .i64 0, .slice none 0 0] 24) = W0 := ⟨_, rfl⟩
  have hQ : Blk W0 w.heap.size 24 #[.int .i64 0, .slice none 0 0] := by rw [← hW0]; exact Blk.new _ _ rfl
  have hU : Up w W0 := by rw [← hW0]; exact Up.alloc _ _
  go_enter Tryz.func8, Tryz.ntmps8
  go_wp2_with (first
    | (go_at_call 39; (with_reducible refine (rnew_any (k : Int) _).mono ?_); rintro r w1 ⟨z1, rfl, hu1, hs1⟩)
    | (go_at_call 38; (with_reducible refine (rdiag_any (dd : Int) hs1 (by unfold I64; omega)).mono ?_); rintro r w2 ⟨z2, rfl, hu2, hs2⟩; have hrt2 := di_rt (nw k) (zeros (nw k)) dd; obtain ⟨s2, base2, rfl, hO2, hr2⟩ := hs2; obtain ⟨p2, n2, c2, rfl⟩ := OwnI.slice hO2)
    | ((with_reducible apply stM_P); exact rfl; exact rfl; exact Blk.new _ _ rfl; exact rfl; exact rfl; exact two2 _ _ _ _ _))
  obtain ⟨N2, hN2⟩ : ∃ N2, diN (nw k) (zeros (nw k)) dd = N2 := ⟨_, rfl⟩
  obtain ⟨L2, hL2⟩ : ∃ L2, diR (nw k) (zeros (nw k)) dd = L2 := ⟨_, rfl⟩
  obtain ⟨C2, hC2⟩ : ∃ C2, diC (nw k) (zeros (nw k)) dd = C2 := ⟨_, rfl⟩
  rw [hN2, hL2] at hrt2
  rw [hL2] at hO2
  rw [hN2, hL2] at hr2
  rw [hN2, hC2]
  have HN2k := hid (show N2 ≤ (k : Int) from by rw [← hN2]; unfold diN nw; split <;> omega)
  clear hN2 hL2 hC2 hs1
  have hbn := Blk.new (w := w2) (b := w2.heap.size) 24 #[.int .i64 0, .slice none 0 0] rfl
  have hsm2 : SmO (w2.alloc (.cells #[.int .i64 0, .slice none 0 0] 24)) (.agg #[.int .i64 N2, .slice p2 n2 c2]) N2 L2 := ⟨_, base2, rfl, OwnI.up (Up.alloc _ _) hO2, hr2⟩
  have hux := hu1.trans hu2
  obtain ⟨b8, hb8⟩ : ∃ b, w2.heap.size = b := ⟨_, rfl⟩
  have hb8l : w.heap.size < b8 := by rw [← hb8]; exact Nat.lt_of_lt_of_le hQ.lt hux.size
  rw [hb8] at hbn
  refine wp_folded (fun wd => MInv k b8 wd ∧ Blk wd w.heap.size 24 #[.int .i64 0, .slice none 0 0] ∧ Up w wd) ⟨⟨N2, _, L2, by rw [hb8]; exact hbn.setRow _, by rw [hb8]; exact hsm2.setRow hbn, hrt2, HN2k.out⟩, by rw [hb8]; exact Blk.row_other ((hQ.up hux).old _) _ (by omega), by rw [hb8]; exact below_setRow ((hU.trans hux).trans (Up.alloc _ _)) (by omega) _⟩ (fun w3 hD => ?_)
  obtain ⟨hM, hQ3, hU3⟩ := hD
  rw [hb8]
  clear hbn hsm2 hux hb8 hO2 hr2 hrt2 hu1 hu2 hQ hU hW0 rk rd ed ld
  go_loopg [10] hs.length (fun g ti wr => ∃ i : Nat, i ≤ 60 ∧ hs.length - i ≤ g ∧ ti = .int .i64 (i : Nat) ∧ MInv k b8 wr ∧ Blk wr w.heap.size 24 #[.int .i64 0, .slice none 0 0] ∧ Up w wr)
  case atStart => exact ⟨0, by omega, by omega, rfl, hM, hQ3, hU3⟩
  case round =>
    clear hM hQ3 hU3
    obtain ⟨i, hi, hig, rfl, ⟨N, s, L, hB, hS, hrt, hNk⟩, hQ, hU⟩ := hrel
    have HNk := hid hNk
    clear hNk
    by_cases hbody : i + k ≤ hs.length ∧ 0 < k ∧ i < 4 * k
    · obtain ⟨g1, g2, g3⟩ := hbody
      have d1 : decide ((i : Int) + (k : Int) ≤ (hs.length : Int)) = true := decide_eq_true (by omega)
      have d2 : decide ((0 : Int) < (k : Int)) = true := decide_eq_true (by omega)
      have d3 : decide ((i : Int) < 4 * (k : Int)) = true := decide_eq_true (by omega)
      go_wp2_with fail
      obtain ⟨wS, rfl⟩ : ∃ x, x = wr := ⟨_, rfl⟩
      go_loopg [11, 12] k (fun g th tj wj => ∃ (j : Nat) (H : List Int), j ≤ k ∧ k - j ≤ g ∧ tj = .int .i64 (j : Nat) ∧ OwnI wj wS.heap.size th H ∧ H.length = j ∧ In64 H ∧ Up wS wj)
      case atStart => exact ⟨0, [], by omega, by omega, rfl, OwnI.nil _ _, rfl, fun i hi => absurd hi (Nat.not_lt_zero _), Up.refl _⟩
      case round =>
        obtain ⟨j, H, hj, hjg, rfl, hO, hH, hH64, hu⟩ := hrel
        have hsz := hu.size
        have HH := hid hH
        have HH64 := hid hH64
        clear hH hH64
        by_cases hlt : j < k
        · have hij : i + j < hs.length := by omega
          obtain ⟨a1, rfl, hc1⟩ := HC.out _ (hU.trans hu) (i + j) hij
          obtain ⟨q, hq⟩ : ∃ q, (zth hs (i + j)).tmod 200 = q := ⟨_, rfl⟩
          have hz := H16.out (i + j) hij
          have hq1 : -200 < q ∧ q < 200 := by rw [← hq]; have := Int.tmod_lt_of_pos (zth hs (i + j)) (show (0 : Int) < 200 by decide); have := Int.lt_tmod_of_pos (zth hs (i + j)) (show (0 : Int) < 200 by decide); omega
          have eq1 : IntKind.i64.wrap q = q := IntWalk.i64_in _ (by omega)
          have hT : ((i : Int) + (j : Int)).toNat = i + j := by omega
          have hT0 : (0 : Int) ≤ (i : Int) + (j : Int) := by omega
          have HQ1 := hid hq1
          generalize zth hs (i + j) = zz at *
          clear hq1
          go_wp2_with (first
            | ((with_reducible apply appV); exact rfl; exact rfl; exact OwnI.up (Up.alloc _ _) hO; exact vw_one _ _; (focus (simp; omega)); (focus (rw [HH.out]; omega)); (focus (simp; done)); rintro v' w' h1 h2; have hu9 : Up wS w' := Below.trans (hu.trans (Up.alloc _ _)) h2))
          go_roundg (k - (j + 1))
          case measure => omega
          case rel => exact ⟨j + 1, H ++ [q], by omega, Nat.le_refl _, rfl, h1, by rw [List.length_append, HH.out]; rfl, In64.snoc HH64.out (by have := HQ1.out; unfold I64; omega), hu9⟩
        · obtain rfl : j = k := by omega
          obtain ⟨r3, hr3⟩ : ∃ r, i % 3 = r := ⟨_, rfl⟩
          have er3 : (i : Int).tmod 3 = (r3 : Nat) := by rw [show (3 : Int) = ((3 : Nat) : Int) from rfl, ← Int.ofNat_tmod, hr3]
          have lr3 : r3 < 3 := by omega
          obtain ⟨x3, hx3⟩ : ∃ x : Int, 1 + (r3 : Int) = x := ⟨_, rfl⟩
          have HX3 : Hid (I64 x3) := hid (by unfold I64; omega)
          obtain ⟨ps, ns, cs, rfl⟩ : ∃ p n c, s = .slice p n c := by
            obtain ⟨s', base', e1, e2, _⟩ := hS
            obtain ⟨p', n', c', rfl⟩ := OwnI.slice e2
            injection e1 with e1
            simp at e1
            exact ⟨_, _, _, e1⟩
          have hB9 := hB.up hu
          have hS9 := hS.up hu
          have hQ9 := hQ.up hu
          have hU9 := hU.trans hu
          have HOU := hid (router_any x3 hS9.sm hO.vw HX3.out HH64.out (by rw [HH.out]; omega))
          have HRT := hid (ou_rt N L x3 H)
          clear hr3 hO hB hS hQ hU hu
          obtain ⟨CX, hCX⟩ : ∃ x, ouC N L x3 H = x := ⟨_, rfl⟩
          rw [hCX] at HOU
          obtain ⟨NX, hNX⟩ : ∃ x, ouN N L x3 H = x := ⟨_, rfl⟩
          obtain ⟨LX, hLX⟩ : ∃ x, ouR N L x3 H = x := ⟨_, rfl⟩
          rw [hNX, hLX] at HOU HRT
          have HNX := hid (show NX ≤ (j : Int) from by rw [← hNX]; unfold ouN; have := HNk.out; split <;> omega)
          clear hCX hNX hLX
          by_cases hcx : CX = 0
          · subst hcx
            go_wp2_with (first
              | ((with_reducible apply ldM_P); exact rfl; exact rfl; (first | exact hb13 | exact hB9); exact rfl)
              | (go_at_call 40; (with_reducible refine (HOU.out).mono ?_); rintro r w5 ⟨z5, rfl, hu5, hs5⟩; have hs5' := hs5; obtain ⟨s5, base5, rfl, hO5, hr5⟩ := hs5'; obtain ⟨p5, n5, c5, rfl⟩ := OwnI.slice hO5; have hbn5 := Blk.new (w := w5) (b := w5.heap.size) 24 #[.int .i64 0, .slice none 0 0] rfl; have hb13 := hbn5.setRow #[.int .i64 NX, .slice p5 n5 c5]; have hB5 := Blk.row_other ((hB9.up hu5).old (.cells #[.int .i64 0, .slice none 0 0] 24)) #[.int .i64 NX, .slice p5 n5 c5] (Nat.ne_of_lt (hB9.up hu5).lt); have hQ5 := Blk.row_other ((hQ9.up hu5).old (.cells #[.int .i64 0, .slice none 0 0] 24)) #[.int .i64 NX, .slice p5 n5 c5] (Nat.ne_of_lt (hQ9.up hu5).lt); have hsm5 := SmO.setRow (D := #[.int .i64 NX, .slice p5 n5 c5]) (SmO.up (Up.alloc w5 (.cells #[.int .i64 0, .slice none 0 0] 24)) hs5) hbn5; have hU5 := below_setRow (((hU9.trans hu5).trans (Up.alloc w5 (.cells #[.int .i64 0, .slice none 0 0] 24)))) (hU9.trans hu5).size #[.int .i64 NX, .slice p5 n5 c5])
              | ((with_reducible apply stM_P); exact rfl; exact rfl; (first | exact hbn5 | exact hB5); exact rfl; exact rfl; exact two2 _ _ _ _ _))
            go_roundg (hs.length - (i + j))
            case measure => omega
            case rel => exact ⟨i + j, by omega, Nat.le_refl _, rfl, ⟨NX, _, LX, hB5.setRow _, hsm5.setRow hB5, HRT.out, HNX.out⟩, Blk.row_other hQ5 _ (by omega), below_setRow hU5 (by omega) _⟩
          · have hcx' : (CX == 0) = false := by simpa using hcx
            go_wp2_with (first
              | ((with_reducible apply ldM_P); exact rfl; exact rfl; exact hB9; exact rfl)
              | (go_at_call 40; (with_reducible refine (HOU.out).mono ?_); rintro r w5 ⟨z5, rfl, hu5, hs5⟩; have hs5' := hs5; obtain ⟨s5, base5, rfl, hO5, hr5⟩ := hs5'; obtain ⟨p5, n5, c5, rfl⟩ := OwnI.slice hO5; have hbn5 := Blk.new (w := w5) (b := w5.heap.size) 24 #[.int .i64 0, .slice none 0 0] rfl; have hB5 := Blk.row_other ((hB9.up hu5).old (.cells #[.int .i64 0, .slice none 0 0] 24)) #[.int .i64 NX, .slice p5 n5 c5] (Nat.ne_of_lt (hB9.up hu5).lt); have hQ5 := Blk.row_other ((hQ9.up hu5).old (.cells #[.int .i64 0, .slice none 0 0] 24)) #[.int .i64 NX, .slice p5 n5 c5] (Nat.ne_of_lt (hQ9.up hu5).lt); have hsm5 := SmO.setRow (D := #[.int .i64 NX, .slice p5 n5 c5]) (SmO.up ((hu5.trans (Up.alloc w5 (.cells #[.int .i64 0, .slice none 0 0] 24)))) hS9) hbn5; have hU5 := below_setRow (((hU9.trans hu5).trans (Up.alloc w5 (.cells #[.int .i64 0, .slice none 0 0] 24)))) (hU9.trans hu5).size #[.int .i64 NX, .slice p5 n5 c5])
              | ((with_reducible apply stM_P); exact rfl; exact rfl; exact hbn5; exact rfl; exact rfl; exact two2 _ _ _ _ _))
            go_roundg (hs.length - (i + j))
            case measure => omega
            case rel => exact ⟨i + j, by omega, Nat.le_refl _, rfl, ⟨N, _, L, hB5, hsm5, hrt, HNk.out⟩, hQ5, hU5⟩
    · obtain ⟨s', base', e1, e2, e3⟩ := hS
      have e1' := e1
      obtain ⟨ps, ns, cs, rfl⟩ := OwnI.slice e2
      injection e1 with e1
      obtain rfl : s = .slice ps ns cs := by simpa using e1
      have hFO : SmO (wr.setRow w.heap.size #[.int .i64 N, .slice ps ns cs]) (.agg #[.int .i64 N, .slice ps ns cs]) N L := SmO.setRow ⟨_, base', rfl, e2, e3⟩ hQ
      have HFO := hid hFO
      clear e1 e2 e3 e1' hFO
      by_cases c1 : i + k ≤ hs.length
      · by_cases c2 : 0 < k
        · have c3 : ¬ i < 4 * k := fun h => hbody ⟨c1, c2, h⟩
          have d3 : decide ((i : Int) < 4 * (k : Int)) = false := decide_eq_false (by omega)
          clear hbody
          go_wp2_with (first
            | ((with_reducible apply ldM_P); exact rfl; exact rfl; exact hB; exact rfl)
            | ((with_reducible apply stM_P); exact rfl; exact rfl; exact hQ; exact rfl; exact rfl; exact two2 _ _ _ _ _))
          exact bodyPost_ret (resM rfl rfl (hQ.setRow _) rfl) rfl ⟨_, N, L, rfl, below_setRow hU (Nat.le_refl _) _, HFO.out, hrt, HNk.out⟩
        · clear hbody
          go_wp2_with (first
            | ((with_reducible apply ldM_P); exact rfl; exact rfl; exact hB; exact rfl)
            | ((with_reducible apply stM_P); exact rfl; exact rfl; exact hQ; exact rfl; exact rfl; exact two2 _ _ _ _ _))
          exact bodyPost_ret (resM rfl rfl (hQ.setRow _) rfl) rfl ⟨_, N, L, rfl, below_setRow hU (Nat.le_refl _) _, HFO.out, hrt, HNk.out⟩
      · clear hbody
        go_wp2_with (first
          | ((with_reducible apply ldM_P); exact rfl; exact rfl; exact hB; exact rfl)
          | ((with_reducible apply stM_P); exact rfl; exact rfl; exact hQ; exact rfl; exact rfl; exact two2 _ _ _ _ _))
        exact bodyPost_ret (resM rfl rfl (hQ.setRow _) rfl) rfl ⟨_, N, L, rfl, below_setRow hU (Nat.le_refl _) _, HFO.out, hrt, HNk.out⟩
theorem seat_any {v : Value} {hs : List Int} (n d : Nat) {w : World} (hn : n < 256) (hd : d < 65536) (hv : Vh w v hs) (h16 : In16 hs) (h60 : hs.length ≤ 60) :
    Calls Tryz.prog 8 #[.int .u8 (n : Nat), .int .u16 (d : Nat), v] w (SeatPost w) :=
  (seat_fit n d hn hd hv h16 h60).mono fun _ _ ⟨z, N, L, h1, h2, h3, h4, _⟩ => ⟨z, N, L, h1, h2, h3, h4⟩
theorem zth_ext {l m : List Int} (h : l.length = m.length) (h2 : ∀ i, i < l.length → zth l i = zth m i) : l = m := by
  refine List.ext_getElem h fun i h1 h3 => ?_
  have := h2 i h1
  rwa [zth_get h1, zth_get h3] at this
def vecV (l : List Int) (sm : Bool) (i : Nat) : Int := let v := if i < l.length then zth l i else (i : Int); if sm then v.tmod 1000000 else v
def vecL (l : List Int) (sm : Bool) : Nat → List Int
  | 0 => []
  | i + 1 => vecL l sm i ++ [vecV l sm i]
theorem vecL_len (l : List Int) (sm : Bool) : ∀ n, (vecL l sm n).length = n := by
  intro n
  induction n with
  | zero => rfl
  | succ n ih => show (vecL l sm n ++ [vecV l sm n]).length = _; rw [List.length_append, ih]; rfl
theorem tmod_bound (v : Int) {m : Int} (hm : 0 < m) : -m < v.tmod m ∧ v.tmod m < m := by
  have h1 := Int.tmod_lt_of_pos v hm
  have h2 := Int.neg_tmod v m
  have h3 := Int.tmod_lt_of_pos (-v) hm
  omega
theorem vecV_in {l : List Int} (h : In64 l) (sm : Bool) {i : Nat} (hi : i < 1000000) : I64 (vecV l sm i) := by
  have h0 : I64 (if i < l.length then zth l i else (i : Int)) := by
    split
    · rename_i h1; exact h i h1
    · unfold I64; omega
  unfold vecV
  cases sm with
  | true =>
    have := tmod_bound (if i < l.length then zth l i else (i : Int)) (m := 1000000) (by decide)
    simp only [if_true]
    unfold I64; omega
  | false => simpa using h0
theorem vecL_in {l : List Int} (h : In64 l) (sm : Bool) : ∀ n, n ≤ 1000000 → In64 (vecL l sm n) := by
  intro n
  induction n with
  | zero => intro _ i hi; exact absurd hi (Nat.not_lt_zero _)
  | succ n ih => intro hn; exact (ih (by omega)).snoc (vecV_in h sm (by omega))
set_option maxHeartbeats 8000000 in
theorem vec_any {s : Value} {p : Option Addr} {nn cc : Nat} {vl : Value} {l : List Int} (n : Nat) (sm : Bool) {w : World} (hs : s = .slice p nn cc) (hn : n ≤ 8) (hl : Vw w vl l) (hI : In64 l) (_ : l.length ≤ 60) :
    Calls Tryz.prog 25 #[.agg #[.int .i64 (n : Nat), s], vl, .bool sm] w fun r w' => ∃ z b, r = .returned z ∧ Up w w' ∧ w.heap.size ≤ b ∧ OwnI w' b z (vecL l sm n) := by
  subst hs
  have HV := hid hl
  obtain ⟨q, cq, rfl, -, hcq⟩ := hl
  have HB := hid (Blk.new (w := w) (b := w.heap.size) 24 #[.int .i64 (n : Nat), .slice p nn cc] rfl)
  have HC := hid (fun w' (hu : Up w w') i (hi : i < l.length) => show ∃ ad, q = some ad ∧ w'.cell? (ad.add i) = some (.int .i64 (zth l i)) from by obtain ⟨a, h1, h2⟩ := hcq i hi; exact ⟨a, h1, hu.cellEq h2⟩)
  have HX := hid (Up.alloc w (.cells #[.int .i64 (n : Nat), .slice p nn cc] 24))
  clear hcq
  go_enter Tryz.func25, Tryz.ntmps25
  go_wp2_with fail
  obtain ⟨wS, hwS⟩ : ∃ x, w.alloc (.cells #[.int .i64 (n : Nat), .slice p nn cc] 24) = x := ⟨_, rfl⟩
  rw [hwS] at HB HX ⊢
  clear hwS
  go_loopg [7, 8] n (fun g tz ti wr => ∃ i : Nat, i ≤ n ∧ n - i ≤ g ∧ ti = .int .i64 (i : Nat) ∧ OwnI wr wS.heap.size tz (vecL l sm i) ∧ Up wS wr)
  case atStart => exact ⟨0, Nat.zero_le _, by omega, rfl, OwnI.nil _ _, Up.refl _⟩
  case round =>
    obtain ⟨i, hi, hig, rfl, hO, hu⟩ := hrel
    have hBr := HB.out.up hu
    have hBr0 := hBr.cell 0 rfl
    have hsz := hu.size
    by_cases hlt : i < n
    · have eV : vecL l sm (i + 1) = vecL l sm i ++ [vecV l sm i] := rfl
      have HE := hid eV
      have HL : Hid ((vecL l sm i).length ≤ 8) := hid (by rw [vecL_len]; omega)
      have HI9 := hid (vecV_in hI sm (i := i) (by omega))
      clear eV
      by_cases hil : i < l.length
      · obtain ⟨ad, rfl, hcx⟩ := HC.out _ (HX.out.trans hu) i hil
        have dil : decide ((i : Int) < (l.length : Int)) = true := decide_eq_true (by omega)
        have hv : vecV l sm i = if sm then (zth l i).tmod 1000000 else zth l i := by unfold vecV; rw [if_pos hil]
        generalize zth l i = z at *
        cases sm with
        | true =>
          rw [if_pos rfl] at hv
          rw [hv] at HE HI9
          clear hv
          go_wp2_with (first
            | ((with_reducible apply appV); exact rfl; exact rfl; exact OwnI.up (Up.alloc _ _) hO; exact vw_one _ _; (focus (simp; omega)); (focus (have := HL.out; omega)); (focus (simp; done)); rintro v' w' h1 h2; have hu9 : Up wS w' := Below.trans (hu.trans (Up.alloc _ _)) h2))
          go_roundg (n - (i + 1))
          case measure => omega
          case rel => exact ⟨i + 1, by omega, Nat.le_refl _, rfl, by rw [HE.out]; exact h1, hu9⟩
        | false =>
          rw [if_neg (by decide)] at hv
          rw [hv] at HE HI9
          clear hv
          go_wp2_with (first
            | ((with_reducible apply appV); exact rfl; exact rfl; exact OwnI.up (Up.alloc _ _) hO; exact vw_one _ _; (focus (simp; omega)); (focus (have := HL.out; omega)); (focus (simp; done)); rintro v' w' h1 h2; have hu9 : Up wS w' := Below.trans (hu.trans (Up.alloc _ _)) h2))
          go_roundg (n - (i + 1))
          case measure => omega
          case rel => exact ⟨i + 1, by omega, Nat.le_refl _, rfl, by rw [HE.out]; exact h1, hu9⟩
      · have dil : decide ((i : Int) < (l.length : Int)) = false := decide_eq_false (by omega)
        have hv : vecV l sm i = if sm then (i : Int).tmod 1000000 else (i : Int) := by unfold vecV; rw [if_neg hil]
        cases sm with
        | true =>
          rw [if_pos rfl] at hv
          rw [hv] at HE HI9
          clear hv
          go_wp2_with (first
            | ((with_reducible apply appV); exact rfl; exact rfl; exact OwnI.up (Up.alloc _ _) hO; exact vw_one _ _; (focus (simp; omega)); (focus (have := HL.out; omega)); (focus (simp; done)); rintro v' w' h1 h2; have hu9 : Up wS w' := Below.trans (hu.trans (Up.alloc _ _)) h2))
          go_roundg (n - (i + 1))
          case measure => omega
          case rel => exact ⟨i + 1, by omega, Nat.le_refl _, rfl, by rw [HE.out]; exact h1, hu9⟩
        | false =>
          rw [if_neg (by decide)] at hv
          rw [hv] at HE HI9
          clear hv
          go_wp2_with (first
            | ((with_reducible apply appV); exact rfl; exact rfl; exact OwnI.up (Up.alloc _ _) hO; exact vw_one _ _; (focus (simp; omega)); (focus (have := HL.out; omega)); (focus (simp; done)); rintro v' w' h1 h2; have hu9 : Up wS w' := Below.trans (hu.trans (Up.alloc _ _)) h2))
          go_roundg (n - (i + 1))
          case measure => omega
          case rel => exact ⟨i + 1, by omega, Nat.le_refl _, rfl, by rw [HE.out]; exact h1, hu9⟩
    · obtain rfl : i = n := by omega
      go_wp2_with fail
      go_ret
      exact ⟨_, _, rfl, HX.out.trans hu, HX.out.size, hO⟩
structure Near (g : Nat) (w w' : World) : Prop where
  os : w'.os = w.os
  tape : w'.tape = w.tape
  output : w'.output = w.output
  size : w.heap.size ≤ w'.heap.size
  block : ∀ k, k < w.heap.size → k ≠ g → w'.heap[k]? = w.heap[k]?
theorem Near.refl (g : Nat) (w : World) : Near g w w := ⟨rfl, rfl, rfl, Nat.le_refl _, fun _ _ _ => rfl⟩
theorem Near.trans {g : Nat} {a b c : World} (h : Near g a b) (k : Near g b c) : Near g a c :=
  ⟨k.os.trans h.os, k.tape.trans h.tape, k.output.trans h.output, Nat.le_trans h.size k.size, fun i hi hg => (k.block i (Nat.lt_of_lt_of_le hi h.size) hg).trans (h.block i hi hg)⟩
theorem Near.of {g : Nat} {a b : World} (h : Up a b) : Near g a b := ⟨h.os, h.tape, h.output, h.size, fun k hk _ => h.block k hk⟩
theorem Near.up {g : Nat} {a b c : World} (h : Near g a b) (hu : Up b c) : Near g a c := h.trans (Near.of hu)
theorem Near.cell {g i : Nat} {a w : World} (h : Near g a w) (v : Value) : Near g a (w.setCell ⟨g, i, none⟩ v) := by
  have k : Below 0 w (w.setCell ⟨g, i, none⟩ v) := (Below.refl 0 w).setCell (Nat.zero_le _) v
  exact h.trans ⟨k.os, k.tape, k.output, k.size, fun j _ hg => Below.heap_setCell w ⟨g, i, none⟩ v j hg⟩
theorem Near.row {g b n : Nat} {t : TypeId} {f : Nat → Nat} {w w' : World} (h : Near g w w') (hb : b ≠ g) (hr : Row w b t n f) : Row w' b t n f := by
  have h1 := hr.lt
  unfold Row Blk at *
  rw [h.block b h1 hb]; exact hr
theorem Near.below {g B : Nat} {a w w' : World} (h : Near g w w') (hg : B ≤ g) (hb : Below B a w) (hB : B ≤ w.heap.size) : Below B a w' :=
  Below.trans hb ⟨h.os, h.tape, h.output, h.size, fun k hk => h.block k (by omega) (by omega)⟩
theorem off_step {A L M X V l lo c c' r b b' P : Nat} (h : A + L = M + (b + c) * P) (h1 : lo + c' * 18446744073709551616 = l * V + c) (h2 : r + lo + b = X + b' * 18446744073709551616) :
    A + r * P + (L + l * V * P) = M + X * P + (b' + c') * (P * 18446744073709551616) := by
  have e : (r + lo + b + (lo + c' * 18446744073709551616)) * P = (X + b' * 18446744073709551616 + (l * V + c)) * P := by rw [h1, h2]
  grind
theorem off_last {A L M X c r b b' P : Nat} (h : A + L = M + (b + c) * P) (h2 : r + c + b = X + b' * 18446744073709551616) :
    A + r * P + L = M + X * P + b' * (P * 18446744073709551616) := by
  have e : (r + c + b) * P = (X + b' * 18446744073709551616) * P := by rw [h2]
  grind
theorem sum_shift_upd (f : Nat → Nat) (o k v : Nat) : sumL (fun j => upd f (o + k) v (o + j)) (k + 1) = sumL (fun j => f (o + j)) k + v * bp k := by
  rw [sumL_succ, upd_same]
  congr 1
  exact sumL_congr fun i hi => upd_other f (o + k) v (by omega)
set_option maxHeartbeats 4000000 in
theorem take_off (gx o n gy cx cy l : Nat) (S V : Nat → Nat) (hS : ∀ j, j < 17 → S j < 18446744073709551616) (hV : ∀ j, j < 17 → V j < 18446744073709551616) (hg : gx ≠ gy) (ho : o + n < 17) (hl : l < 18446744073709551616) (w : World) (rx : Row w gx 201 17 S) (ry : Row w gy 201 17 V) :
    Calls Tryz.prog 147 #[.slice (some ⟨gx, o, none⟩) (n + 1) cx, .slice (some ⟨gy, 0, none⟩) n cy, .int .u64 (l : Nat)] w fun e w' =>
      ∃ (S' : Nat → Nat) (b : Nat), e = .returned (.bool (decide (b ≠ 0))) ∧ b ≤ 1 ∧ sumL (fun j => S' (o + j)) (n + 1) + l * sumL V n = sumL (fun j => S (o + j)) (n + 1) + b * bp (n + 1) ∧
        (∀ j, j < o ∨ o + n < j → S' j = S j) ∧ (∀ j, j < 17 → S' j < 18446744073709551616) ∧ Row w' gx 201 17 S' ∧ Near gx w w' := by
  have HS := hid hS
  have HV := hid hV
  clear hS hV
  go_enter Tryz.func147, Tryz.ntmps147
  go_wp2
  go_loopw [8, 9, 14] (fun tc tb ti wr => ∃ (i c b : Nat) (T : Nat → Nat), i ≤ n ∧ tc = .int .u64 (c : Nat) ∧ tb = .int .u64 (b : Nat) ∧ ti = .int .i64 (i : Nat) ∧ c < 18446744073709551616 ∧ b ≤ 1 ∧
      sumL (fun j => T (o + j)) i + l * sumL V i = sumL (fun j => S (o + j)) i + (b + c) * bp i ∧ (∀ j, j < o ∨ o + i ≤ j → T j = S j) ∧ (∀ j, j < 17 → T j < 18446744073709551616) ∧ Row wr gx 201 17 T ∧ Near gx w wr)
    (fun _ _ ti _ => n - (intOf ti).toNat)
  case atStart => exact ⟨0, 0, 0, S, by omega, rfl, rfl, rfl, by omega, by omega, by simp [sumL_zero], fun _ _ => rfl, HS.out, rx, Near.refl _ _⟩
  case round =>
    obtain ⟨i, c, b, T, hi, rfl, rfl, rfl, hc, hb, hsum, hT, hTl, hR, hN⟩ := hrel
    have Hsum := hid hsum
    have HT := hid hT
    have HTl := hid hTl
    clear hsum hT hTl rx
    by_cases hlt : i < n
    · have hVi := HV.out i (by omega)
      have hcy := (hN.row (Ne.symm hg) ry).cell i (by omega)
      have hcx := hR.cell (o + i) (by omega)
      have hfx := hR.frozen (o + i)
      obtain ⟨lo, c', hlo, hc'⟩ : ∃ lo c' : Nat, lo = (l * V i + c + 0) % 18446744073709551616 ∧ c' = (l * V i + c + 0) / 18446744073709551616 := ⟨_, _, rfl, rfl⟩
      have hstep := step_any l (V i) c 0 hl hVi hc (by decide)
      rw [← hlo, ← hc'] at hstep
      obtain ⟨b1, b2, b3⟩ := step_bound hl hVi hc (by decide) hlo hc'
      have HST := hid (show ∀ w, Calls Tryz.prog 141 #[.int .u64 (l : Nat), .int .u64 (V i : Nat), .int .u64 (c : Nat), .int .u64 0] w (fun e w' => e = .returned (.tuple #[.int .u64 (lo : Nat), .int .u64 (c' : Nat)]) ∧ w' = w) from hstep)
      have HB3 := hid b3
      clear hlo hc' hstep b3
      obtain ⟨r, b', hadd, hr, hrl, hb1⟩ : ∃ r b' : Nat, (∀ w, (callFunc 130 #[.int .u64 (T (o + i) : Nat), .int .u64 (lo : Nat), .int .u64 (b : Nat)]).run Tryz.prog w = .ok (.value (.tuple #[.int .u64 (r : Nat), .int .u64 (b' : Nat)])) w) ∧
          Hid (r + lo + b = T (o + i) + b' * 18446744073709551616) ∧ r < 18446744073709551616 ∧ b' ≤ 1 :=
        ⟨_, _, run_sub (T (o + i)) lo b hb, hid (by have := HTl.out (o + i) (by omega); split <;> omega), Nat.mod_lt _ (by decide), by split <;> omega⟩
      have gR := hR.set (o + i) r
      have gN := hN.cell (i := o + i) (.int .u64 (r : Nat))
      clear hR hN
      go_wp2_with (go_at_call 141; (with_reducible refine (HST.out _).mono ?_); rintro e w' ⟨rfl, rfl⟩)
      go_roundw
      case rel =>
        refine ⟨i + 1, c', b', upd T (o + i) r, by omega, rfl, rfl, by go_num, b2, hb1, ?_, fun j hj => by rw [upd_other _ _ _ (by omega)]; exact HT.out j (by omega), upd_lt HTl.out hrl, gR, gN⟩
        rw [sum_shift_upd, sumL_succ V, sumL_succ (fun j => S (o + j)), bp_succ, Nat.mul_add, ← Nat.mul_assoc]
        have h1 := HB3.out
        have h2 := hr.out
        rw [HT.out (o + i) (by omega)] at h2
        exact off_step Hsum.out (by omega) h2
      case measure => simp [intOf] <;> omega
    · obtain rfl : i = n := by omega
      have hcx := hR.cell (o + i) (by omega)
      have hfx := hR.frozen (o + i)
      obtain ⟨r, b', hadd, hr, hrl, hb1⟩ : ∃ r b' : Nat, (∀ w, (callFunc 130 #[.int .u64 (T (o + i) : Nat), .int .u64 (c : Nat), .int .u64 (b : Nat)]).run Tryz.prog w = .ok (.value (.tuple #[.int .u64 (r : Nat), .int .u64 (b' : Nat)])) w) ∧
          Hid (r + c + b = T (o + i) + b' * 18446744073709551616) ∧ r < 18446744073709551616 ∧ b' ≤ 1 :=
        ⟨_, _, run_sub (T (o + i)) c b hb, hid (by have := HTl.out (o + i) (by omega); split <;> omega), Nat.mod_lt _ (by decide), by split <;> omega⟩
      have gR := hR.set (o + i) r
      have gN := hN.cell (i := o + i) (.int .u64 (r : Nat))
      clear hR hN
      go_wp2
      go_ret
      refine ⟨upd T (o + i) r, b', ret_bool ?_, hb1, ?_, fun j hj => by rw [upd_other _ _ _ (by omega)]; exact HT.out j (by omega), upd_lt HTl.out hrl, gR, gN⟩
      · rw [Bool.eq_iff_iff, bne_iff_ne, decide_eq_true_iff]; omega
      · rw [sum_shift_upd, sumL_succ (fun j => S (o + j)), bp_succ]
        have h2 := hr.out
        rw [HT.out (o + i) (by omega)] at h2
        exact off_last Hsum.out h2
theorem back_step {A L M X V c c' r P : Nat} (h : A + c * P = M + L) (h2 : r + c' * 18446744073709551616 = X + V + c) :
    A + r * P + c' * (P * 18446744073709551616) = M + X * P + (L + V * P) := by
  have e : (r + c' * 18446744073709551616) * P = (X + V + c) * P := by rw [h2]
  grind
set_option maxHeartbeats 4000000 in
theorem put_back (gx o n gy cx cy : Nat) (S V : Nat → Nat) (hS : ∀ j, j < 17 → S j < 18446744073709551616) (hV : ∀ j, j < 17 → V j < 18446744073709551616) (hg : gx ≠ gy) (ho : o + n < 17) (w : World) (rx : Row w gx 201 17 S) (ry : Row w gy 201 17 V) :
    Calls Tryz.prog 148 #[.slice (some ⟨gx, o, none⟩) (n + 1) cx, .slice (some ⟨gy, 0, none⟩) n cy] w fun e w' =>
      ∃ (S' : Nat → Nat) (b : Nat), e = .returned (.bool (decide (b ≠ 0))) ∧ b ≤ 1 ∧ sumL (fun j => S' (o + j)) (n + 1) + b * bp (n + 1) = sumL (fun j => S (o + j)) (n + 1) + sumL V n ∧
        (∀ j, j < o ∨ o + n < j → S' j = S j) ∧ (∀ j, j < 17 → S' j < 18446744073709551616) ∧ Row w' gx 201 17 S' ∧ Near gx w w' := by
  have HS := hid hS
  have HV := hid hV
  clear hS hV
  go_enter Tryz.func148, Tryz.ntmps148
  go_wp2
  go_loopw [5, 10] (fun tc ti wr => ∃ (i c : Nat) (T : Nat → Nat), i ≤ n ∧ tc = .int .u64 (c : Nat) ∧ ti = .int .i64 (i : Nat) ∧ c ≤ 1 ∧
      sumL (fun j => T (o + j)) i + c * bp i = sumL (fun j => S (o + j)) i + sumL V i ∧ (∀ j, j < o ∨ o + i ≤ j → T j = S j) ∧ (∀ j, j < 17 → T j < 18446744073709551616) ∧ Row wr gx 201 17 T ∧ Near gx w wr)
    (fun _ ti _ => n - (intOf ti).toNat)
  case atStart => exact ⟨0, 0, S, by omega, rfl, rfl, by omega, by simp [sumL_zero], fun _ _ => rfl, HS.out, rx, Near.refl _ _⟩
  case round =>
    obtain ⟨i, c, T, hi, rfl, rfl, hc, hsum, hT, hTl, hR, hN⟩ := hrel
    have Hsum := hid hsum
    have HT := hid hT
    have HTl := hid hTl
    clear hsum hT hTl rx
    by_cases hlt : i < n
    · have hY := hN.row (Ne.symm hg) ry
      have hcy := hY.cell i (by omega)
      have hcx := hR.cell (o + i) (by omega)
      have hfx := hR.frozen (o + i)
      obtain ⟨r, c', hadd, hr, hrl, hc1⟩ : ∃ r c' : Nat, (∀ w, (callFunc 88 #[.int .u64 (T (o + i) : Nat), .int .u64 (V i : Nat), .int .u64 (c : Nat)]).run Tryz.prog w = .ok (.value (.tuple #[.int .u64 (r : Nat), .int .u64 (c' : Nat)])) w) ∧
          Hid (r + c' * 18446744073709551616 = T (o + i) + V i + c) ∧ r < 18446744073709551616 ∧ c' ≤ 1 :=
        ⟨_, _, run_add (T (o + i)) (V i) c hc, hid (by omega), Nat.mod_lt _ (by decide), by have := HTl.out (o + i) (by omega); have := HV.out i (by omega); omega⟩
      go_wp2
      refine opU (S := (fun wq => Row wq gx 201 17 T ∧ Row wq gy 201 17 V ∧ wq.cell? ⟨gx, o + i, none⟩ = some (.int .u64 (T (o + i) : Nat)) ∧ wq.cell? ⟨gy, i, none⟩ = some (.int .u64 (V i : Nat)) ∧ Near gx w wq)) (req := (fun j => j != 16)) (fun _ _ h hu => ⟨(h.1).up hu, (h.2.1).up hu, hu.cell (h.2.2.1), hu.cell (h.2.2.2.1), Near.up (h.2.2.2.2) hu⟩) ⟨gRow, gRow, (by first | assumption | (apply Blk.cell; exact gBlk; exact rfl)), (by first | assumption | (apply Blk.cell; exact gBlk; exact rfl)), (by assumption)⟩ (fun wS hSS hSu => ?_)
      have ⟨hS1, hS2, hS3, hS4, hSB⟩ := hSS
      clear hcx hcy hfx hR hY hN
      have hk1 : (i : Int) < (n : Int) + 1 := by omega
      refine tkP 0 (some 14) hSu ?_
      refine tkP 1 (some 15) hSu ?_
      refine tkP 2 (some 16) hSu ?_
      refine tkP 3 (some 17) hSu ?_
      refine tkP 4 (some 18) hSu ?_
      refine tkT 5 (some 19) rfl hSu hSS ?_ (hy := fun w' hSw => by ((try dsimp only at hSw); (try obtain ⟨_, _, _, _, _⟩ := hSw); go_simp; (try exact rfl)))
      refine tkP 6 (some 20) hSu ?_
      refine tkP 7 (some 21) hSu ?_
      refine tkP 8 (some 22) hSu ?_
      refine tkT 9 (some 23) rfl hSu hSS ?_ (hy := fun w' hSw => by ((try dsimp only at hSw); (try obtain ⟨_, _, _, _, _⟩ := hSw); go_simp; (try exact rfl)))
      refine tkP 10 (some 24) hSu ?_
      refine tkP 11 (some 25) hSu ?_
      refine tkP 12 (some 13) hSu ?_
      refine tkP 13 (some 26) hSu ?_
      refine tkP 14 (some 27) hSu ?_
      refine tkP 15 (some 28) hSu ?_
      refine wpAnyU_one (i := 16) rfl (by kernel_rfl) (by rfl) fun w1 hw1 => ?_
      have hcW := (hS1.up hw1).cell (o+i) (by omega)
      have hfW := (hS1.up hw1).frozen (o+i)
      go_simp
      clear hcW hfW
      refine tkP 17 (some 5) hSu ?_
      refine wpAnyU_done (by kernel_rfl) (fun wF huE => ?_) _
      have gR := ((hS1.up hw1).set (o + i) r).up huE
      have gN := ((hSB.up hw1).cell (i := o + i) (.int .u64 (r : Nat))).up huE
      clear hS1 hS2 hS3 hS4 hSB hSS hw1 huE
      go_wp2
      go_roundw
      case rel =>
        refine ⟨i + 1, c', upd T (o + i) r, by omega, rfl, by go_num, hc1, ?_, fun j hj => by rw [upd_other _ _ _ (by omega)]; exact HT.out j (by omega), upd_lt HTl.out hrl, gR, gN⟩
        rw [sum_shift_upd, sumL_succ V, sumL_succ (fun j => S (o + j)), bp_succ]
        have h2 := hr.out
        rw [HT.out (o + i) (by omega)] at h2
        exact back_step Hsum.out h2
      case measure => simp [intOf] <;> omega
    · obtain rfl : i = n := by omega
      have hcx := hR.cell (o + i) (by omega)
      have hfx := hR.frozen (o + i)
      obtain ⟨r, c', hadd, hr, hrl, hc1⟩ : ∃ r c' : Nat, (∀ w, (callFunc 88 #[.int .u64 (T (o + i) : Nat), .int .u64 0, .int .u64 (c : Nat)]).run Tryz.prog w = .ok (.value (.tuple #[.int .u64 (r : Nat), .int .u64 (c' : Nat)])) w) ∧
          Hid (r + c' * 18446744073709551616 = T (o + i) + 0 + c) ∧ r < 18446744073709551616 ∧ c' ≤ 1 := by
        have h := run_add (T (o + i)) 0 c hc
        simp only [show ((0 : Nat) : Int) = 0 from rfl] at h
        exact ⟨_, _, h, hid (by omega), Nat.mod_lt _ (by decide), by have := HTl.out (o + i) (by omega); omega⟩
      have gR := hR.set (o + i) r
      have gN := hN.cell (i := o + i) (.int .u64 (r : Nat))
      clear hR hN
      go_wp2
      go_ret
      refine ⟨upd T (o + i) r, c', ret_bool ?_, hc1, ?_, fun j hj => by rw [upd_other _ _ _ (by omega)]; exact HT.out j (by omega), upd_lt HTl.out hrl, gR, gN⟩
      · rw [Bool.eq_iff_iff, bne_iff_ne, decide_eq_true_iff]; omega
      · rw [sum_shift_upd, sumL_succ (fun j => S (o + j)), bp_succ]
        have h2 := hr.out
        rw [HT.out (o + i) (by omega)] at h2
        have h3 := back_step (V := 0) Hsum.out h2
        rw [Nat.zero_mul, Nat.add_zero] at h3
        exact h3
def guessN (h l y : Nat) : Nat := if y ≤ h then 18446744073709551615 else (18446744073709551616 * h + l) / y
theorem guess_lt {h l y : Nat} (hl : l < 18446744073709551616) : guessN h l y < 18446744073709551616 := by
  unfold guessN
  split
  · decide
  · exact short_q (by omega) hl
set_option maxHeartbeats 1000000 in
theorem guess_any (h l y : Nat) (_ : h < 18446744073709551616) (hl : l < 18446744073709551616) (hy : y < 18446744073709551616) (w : World) :
    Calls Tryz.prog 146 #[.int .u64 (h : Nat), .int .u64 (l : Nat), .int .u64 (y : Nat)] w fun e w' => e = .returned (.int .u64 (guessN h l y : Nat)) ∧ Up w w' := by
  by_cases hc : y ≤ h
  · have e : guessN h l y = 18446744073709551615 := by unfold guessN; rw [if_pos hc]
    rw [e]
    clear e
    go_enter Tryz.func146, Tryz.ntmps146
    go_wp2
    go_ret
    exact ⟨rfl, gUp⟩
  · have e : guessN h l y = (18446744073709551616 * h + l) / y := by unfold guessN; rw [if_neg hc]
    have hD := fun w => div64_any h l y hy hl (by omega) w
    rw [← e] at hD
    generalize guessN h l y = g at *
    generalize (18446744073709551616 * h + l) % y = r at *
    have HD := hid hD
    clear e hD
    go_enter Tryz.func146, Tryz.ntmps146
    go_wp2_with (go_at_call 136; (with_reducible refine (HD.out _).mono ?_); rintro e w' ⟨rfl, hu⟩)
    go_ret
    exact ⟨rfl, gUp⟩
theorem sumL_split (f : Nat → Nat) (a b : Nat) : sumL f (a + b) = sumL f a + sumL (fun j => f (a + j)) b * bp a := by
  induction b with
  | zero => simp [sumL_zero]
  | succ b ih =>
    rw [← Nat.add_assoc, sumL_succ, ih, sumL_succ, bp_add, Nat.add_mul]
    generalize sumL (fun j => f (a + j)) b = t at *
    generalize bp a = p at *
    generalize bp b = q at *
    grind
theorem zero_above {f : Nat → Nat} {n k : Nat} (h : sumL f n < bp k) : ∀ j, k ≤ j → j < n → f j = 0 := by
  induction n with
  | zero => intro j _ hj; omega
  | succ n ih =>
    rw [sumL_succ] at h
    intro j h1 h2
    by_cases e : j = n
    · subst e
      rcases Nat.eq_zero_or_pos (f j) with h3 | h3
      · exact h3
      · have h4 : 1 * bp j ≤ f j * bp j := Nat.mul_le_mul_right _ h3
        have h5 := bp_mono h1
        omega
    · exact ih (by omega) j h1 (by omega)
theorem sum_cut {f : Nat → Nat} {n k : Nat} (hk : k ≤ n) (h : ∀ j, k ≤ j → j < n → f j = 0) : sumL f n = sumL f k := by
  obtain ⟨d, rfl⟩ := Nat.exists_eq_add_of_le hk
  rw [sumL_split]
  rw [sumL_congr (g := fun _ => 0) (fun j hj => h (k + j) (by omega) (by omega)), sumL_zeros]
  omega
theorem guess_ge {F V : Nat → Nat} {m P W : Nat} (hF : ∀ j, j < m + 2 → F j < 18446744073709551616) (hW : sumL F (m + 2) = W) (hP : sumL V (m + 1) = P) (h0 : 0 < P) (hlt : W < P * 18446744073709551616) : W / P ≤ guessN (F (m + 1)) (F m) (V m) := by
  unfold guessN
  split
  · have : W / P < 18446744073709551616 := by rw [Nat.div_lt_iff_lt_mul h0, Nat.mul_comm]; exact hlt
    omega
  · rename_i hv
    rw [Nat.le_div_iff_mul_le (by omega)]
    have h1 := sumL_lt (f := F) (k := m) fun j hj => hF j (by omega)
    rw [sumL_succ, sumL_succ, bp_succ] at hW
    rw [sumL_succ] at hP
    have h2 := Nat.div_mul_le_self W P
    generalize W / P = q at *
    have h3 : q * (V m * bp m) ≤ q * P := Nat.mul_le_mul_left _ (by omega)
    have h4 : q * V m * bp m < (18446744073709551616 * F (m + 1) + F m + 1) * bp m := by
      have e : (18446744073709551616 * F (m + 1) + F m + 1) * bp m = F m * bp m + F (m + 1) * (bp m * 18446744073709551616) + bp m := by grind
      rw [e, Nat.mul_assoc]
      omega
    have h5 := Nat.lt_of_mul_lt_mul_right h4
    omega
theorem round_end {W1 W P g : Nat} (h : W1 + g * P = W) (hge : W / P ≤ g) (h0 : 0 < P) : W1 < P ∧ g = W / P := by
  have h1 : g ≤ W / P := by rw [Nat.le_div_iff_mul_le h0]; omega
  have h2 : g = W / P := by omega
  refine ⟨?_, h2⟩
  have h3 := Nat.mod_lt W h0
  have h4 := Nat.div_add_mod W P
  rw [← h2, Nat.mul_comm] at h4
  omega
theorem round_more {W1 W P g B : Nat} (h : W1 + g * P = W + B) (hB : W1 < B) (h0 : 0 < P) : 1 ≤ g ∧ W / P ≤ g - 1 := by
  have h1 : W < g * P := by omega
  have h2 : W / P < g := by rw [Nat.div_lt_iff_lt_mul h0]; exact h1
  generalize W / P = q at *
  omega
theorem round_next {W1 W2 W P g B b : Nat} (h : W1 + g * P = W + B) (h2 : W2 + b * B = W1 + P) (hg : 1 ≤ g) (hb : b ≤ 1) : W2 + (g - 1) * P = W + (1 - b) * B := by
  obtain ⟨k, rfl⟩ : ∃ k, g = k + 1 := ⟨g - 1, by omega⟩
  rw [Nat.add_sub_cancel, Nat.add_mul, Nat.one_mul] at *
  have hb2 : b = 0 ∨ b = 1 := by omega
  rcases hb2 with rfl | rfl
  · simp at *; omega
  · simp at *; omega
theorem long_step {S S' T : Nat → Nat} {i m P W W1 g X : Nat} (hm : i + m < 17) (hi : i < 16) (hS : ∀ j, j < 17 → S j < 18446744073709551616) (hX : X = sumL T 16 * P + sumL S 17) (hT : T i = 0) (hR : sumL S 17 < bp (i + m + 1))
    (hW : sumL (fun j => S (i + j)) (m + 1) = W) (hW1 : sumL (fun j => S' (i + j)) (m + 1) = W1) (ho : ∀ j, j < i ∨ i + m < j → S' j = S j) (he : W1 + g * P = W) (hlt : W1 < P) :
    X = sumL (upd T i g) 16 * P + sumL S' 17 ∧ sumL S' 17 < P * bp i := by
  have hz := zero_above hR
  have e1 : sumL S 17 = sumL S i + W * bp i := by
    rw [sum_cut (show i + (m + 1) ≤ 17 by omega) (fun j h1 h2 => hz j (by omega) h2), sumL_split, hW]
  have e2 : sumL S' 17 = sumL S i + W1 * bp i := by
    rw [sum_cut (show i + (m + 1) ≤ 17 by omega) (fun j h1 h2 => by rw [ho j (by omega)]; exact hz j (by omega) h2), sumL_split, hW1, sumL_congr fun j hj => ho j (.inl hj)]
  have e3 := sumL_upd T g hi
  rw [hT, Nat.zero_mul, Nat.add_zero] at e3
  have h1 := sumL_lt (f := S) (k := i) fun j hj => hS j (by omega)
  constructor
  · rw [e2, e3, hX, e1, ← he]
    grind
  · rw [e2]
    have h2 : (W1 + 1) * bp i ≤ P * bp i := Nat.mul_le_mul_right _ hlt
    rw [Nat.add_mul] at h2
    omega
theorem long_end {x y s Q R : Nat} (h0 : 0 < y) (h : x * 2 ^ s = Q * (y * 2 ^ s) + R) (hR : R < y * 2 ^ s) : Q = x / y ∧ R / 2 ^ s = x % y := by
  have hp := Nat.two_pow_pos s
  generalize 2 ^ s = p at *
  have h1 : x * p / (y * p) = Q := by
    rw [h, Nat.mul_comm Q, Nat.mul_add_div (Nat.mul_pos h0 hp), Nat.div_eq_of_lt hR, Nat.add_zero]
  have h2 : x * p % (y * p) = R := by
    rw [h, Nat.mul_comm Q, Nat.mul_add_mod, Nat.mod_eq_of_lt hR]
  rw [Nat.mul_div_mul_right _ _ hp] at h1
  rw [Nat.mul_mod_mul_right] at h2
  exact ⟨h1.symm, by rw [← h2, Nat.mul_div_cancel _ hp]⟩
theorem norm_part {y m s : Nat} (hy : y < bp m) (hm : 0 < m) (htop : limb y (m - 1) ≠ 0) (hs : s = 64 - Lib.bitLen (limb y (m - 1))) : y * 2 ^ s < bp m ∧ 9223372036854775808 * bp (m - 1) ≤ y * 2 ^ s ∧ s < 64 := by
  obtain ⟨k, rfl⟩ : ∃ k, m = k + 1 := ⟨m - 1, by omega⟩
  rw [Nat.add_sub_cancel] at *
  obtain ⟨b1, b2, b3, b4⟩ := bitLen_spec (limb_lt y k) htop
  have e : limb y k = y / bp k := by
    unfold limb
    exact Nat.mod_eq_of_lt (by rw [Nat.div_lt_iff_lt_mul (bp_pos k), Nat.mul_comm, ← bp_succ]; exact hy)
  generalize Lib.bitLen (limb y k) = L at *
  rw [e] at b2 b3
  have h1 : y < 2 ^ L * bp k := by rw [← Nat.div_lt_iff_lt_mul (bp_pos k)]; exact b3
  have h2 : 2 ^ (L - 1) * bp k ≤ y := by rw [← Nat.le_div_iff_mul_le (bp_pos k)]; exact b2
  have hp := Nat.two_pow_pos s
  have e1 : 2 ^ L * 2 ^ s = 18446744073709551616 := by rw [← Nat.pow_add, show L + s = 64 by omega]
  have e2 : 2 ^ (L - 1) * 2 ^ s = 9223372036854775808 := by rw [← Nat.pow_add, show L - 1 + s = 63 by omega]
  refine ⟨?_, ?_, by omega⟩
  · have h3 : y * 2 ^ s < 2 ^ L * bp k * 2 ^ s := Nat.mul_lt_mul_of_pos_right h1 hp
    rw [bp_succ, ← e1]
    calc y * 2 ^ s < 2 ^ L * bp k * 2 ^ s := h3
      _ = bp k * (2 ^ L * 2 ^ s) := by grind
  · have h3 : 2 ^ (L - 1) * bp k * 2 ^ s ≤ y * 2 ^ s := Nat.mul_le_mul_right _ h2
    rw [← e2]
    calc 2 ^ (L - 1) * 2 ^ s * bp k = 2 ^ (L - 1) * bp k * 2 ^ s := by grind
      _ ≤ y * 2 ^ s := h3
theorem run_allocL {o : Oper} {a : Act} (ho : o.op = .alloc 201) (w : World) :
    (execOp a.eval o).run Tryz.prog w = .ok (.value (.pointer (some ⟨w.heap.size, 0, none⟩))) (w.alloc (.cells (cells 17 (fun _ => 0)) 201)) := by
  rw [← zeros17]
  unfold execOp
  rw [ho]
  dsimp only
  go_simp
theorem wpAnyU_allocL {ops : Array Oper} {Q : Exit → Act → World → Prop} {md : Region.Mode} {S : World → Prop} {req : Nat → Bool} {i : Nat} {o : Oper} {d : Option Tmp} {fuel : Nat} {listed : Array Bool} {a : Act} {w : World}
    (hi : ops[i]? = some o) (hd : o.dst = d) (hr : Region.ready md ops listed = [i]) (hw : Region.wanted o (yielded ops a.tmps) = true) (ho : o.op = .alloc 201) (hSup : ∀ w w', S w → Up w w' → S w')
    (h : ∀ w1, Up w w1 → wpAnyU Tryz.prog md ops Q S req fuel (listed.setIfInBounds i true) (a.put d (.pointer (some ⟨w1.heap.size, 0, none⟩))) (w1.alloc (.cells (cells 17 (fun _ => 0)) 201))) : wpAnyU Tryz.prog md ops Q S req (fuel + 1) listed a w := by
  subst hd
  refine wpAnyU_one hi hr hw fun w1 hw1 => ?_
  unfold Oper.wp
  rw [run_allocL ho w1]
  exact ⟨fun _ hS => hSup _ _ hS (Up.alloc _ _), h w1 hw1⟩
theorem wpAnyU_alloc2L {ops : Array Oper} {Q : Exit → Act → World → Prop} {md : Region.Mode} {S : World → Prop} {req : Nat → Bool} {i j : Nat} {oi oj : Oper} {di dj : Tmp} {fuel : Nat} {listed : Array Bool} {a : Act} {w : World}
    (hi : ops[i]? = some oi) (hj : ops[j]? = some oj) (hdi : oi.dst = some di) (hdj : oj.dst = some dj) (hd : di ≠ dj) (hgi : oi.guard = none) (hgj : oj.guard = none) (hoi : oi.op = .alloc 201) (hoj : oj.op = .alloc 201)
    (hr : Region.ready md ops listed = [i, j]) (hr1 : Region.ready md ops (listed.setIfInBounds i true) = [j]) (hr2 : Region.ready md ops (listed.setIfInBounds j true) = [i]) (hij : i ≠ j) (hSup : ∀ w w', S w → Up w w' → S w')
    (h : ∀ w1 p q, Up w w1 → Row w1 p 201 17 (fun _ => 0) → Row w1 q 201 17 (fun _ => 0) → p ≠ q → w.heap.size ≤ p → w.heap.size ≤ q →
      wpAnyU Tryz.prog md ops Q S req fuel ((listed.setIfInBounds i true).setIfInBounds j true) ((a.put (some di) (.pointer (some ⟨p, 0, none⟩))).put (some dj) (.pointer (some ⟨q, 0, none⟩))) w1) :
    wpAnyU Tryz.prog md ops Q S req (fuel + 2) listed a w := by
  have hwi : ∀ a : Act, Region.wanted oi (yielded ops a.tmps) = true := fun a => by simp [Region.wanted, hgi]
  have hwj : ∀ a : Act, Region.wanted oj (yielded ops a.tmps) = true := fun a => by simp [Region.wanted, hgj]
  refine wpAnyU_all hr (by simp) fun w1 hw1 k hk => ?_
  simp only [List.mem_cons, List.not_mem_nil, or_false] at hk
  rcases hk with rfl | rfl
  · unfold wpOp
    simp only [hi, hwi, if_true]
    refine .inl ?_
    unfold Oper.wp
    rw [run_allocL hoi w1]
    refine ⟨fun _ hS => hSup _ _ hS (Up.alloc _ _), ?_⟩
    refine wpAnyU_allocL hj hdj hr1 (hwj _) hoj hSup fun w2 hw2 => ?_
    rw [hdi]
    have h1 := hw1.size
    have h2 := hw2.size
    simp only [World.alloc, Array.size_push] at h2
    exact h _ _ _ ((hw1.trans ((Up.alloc _ _).trans hw2)).trans (Up.alloc _ _)) ((Row.up (row_newc _ 17 _ rfl) hw2).up (Up.alloc _ _)) (row_newc _ 17 _ rfl) (by omega) (by omega) (by omega)
  · unfold wpOp
    simp only [hj, hwj, if_true]
    refine .inl ?_
    unfold Oper.wp
    rw [run_allocL hoj w1]
    refine ⟨fun _ hS => hSup _ _ hS (Up.alloc _ _), ?_⟩
    refine wpAnyU_allocL hi hdi hr2 (hwi _) hoi hSup fun w2 hw2 => ?_
    rw [hdj, Act.put_comm a (x := some dj) (y := some di) _ _ (fun d h1 h2 => hd (by rw [Option.some.inj h1, Option.some.inj h2])), Array.setIfInBounds_comm _ _ (Ne.symm hij)]
    have h1 := hw1.size
    have h2 := hw2.size
    simp only [World.alloc, Array.size_push] at h2
    exact h _ _ _ ((hw1.trans ((Up.alloc _ _).trans hw2)).trans (Up.alloc _ _)) (row_newc _ 17 _ rfl) ((Row.up (row_newc _ 17 _ rfl) hw2).up (Up.alloc _ _)) (by omega) (by omega) (by omega)
theorem wp_worldD {P : Program} {c : Code} {Q : Exit → Act → World → Prop} {a : Act} {w : World} (R : World → Prop) (h : R w) (k : ∀ w', R w' → c.wp P Q a w') : c.wp P Q a w := k w h
section
variable {P : Program} {ops : Array Oper} {Q : Exit → Act → World → Prop} {md : Region.Mode} {S : World → Prop} {req : Nat → Bool}
theorem wpAnyU_callN {i : Nat} {o : Oper} {d : Option Tmp} {fuel : Nat} {listed : Array Bool} {a : Act} {w : World} {f : FuncId} {args : Array Value} {R : World → Value → World → Prop} (hi : ops[i]? = some o) (hd : o.dst = d) (hr : Region.ready md ops listed = [i]) (hw : Region.wanted o (yielded ops a.tmps) = true) (hq : req i = false)
    (hrun : ∀ w', (execOp a.eval o).run P w' = .ok (.enter f args) w') (hc : ∀ w', Up w w' → Calls P f args w' fun e w'' => ∃ v, e = .returned v ∧ R w' v w'')
    (h : ∀ w' v w'', Up w w' → R w' v w'' → wpAnyU P md ops Q S req fuel (listed.setIfInBounds i true) (a.put d v) w'') : wpAnyU P md ops Q S req (fuel + 1) listed a w := by
  refine wpAnyU_one hi hr hw fun w1 hw1 => ?_
  unfold Oper.wp
  rw [hrun w1]
  subst hd
  refine Calls.mono (hc w1 hw1) fun e w'' he => ?_
  obtain ⟨v, rfl, hR⟩ := he
  exact ⟨(fun h1 => by (rw [hq] at h1; cases h1)), h w1 v w'' hw1 hR⟩
end
theorem undL2 : Tryz.prog.underlying 201 = some (.array (Tryz.prog.arrayLen 201) (Tryz.prog.elem 201)) := by kernel_rfl
theorem lenL2 : Tryz.prog.arrayLen 201 = 17 := by kernel_rfl
theorem run_size1 (w : World) : (sizeOf (Tryz.prog.elem 201)).run Tryz.prog w = .ok 1 w := by rfl
theorem slice_win {p i m : Nat} (h : i + m < 17) (w : World) :
    (Instr.sliceAt 201 (.pointer (some ⟨p, 0, none⟩)) (some (.int .i64 (i : Nat))) (some (.int .i64 ((i : Int) + (m : Int) + 1))) none).run Tryz.prog w = .ok (.slice (some ⟨p, i, none⟩) (m + 1) (17 - i)) w := by
  rw [run_sliceAt_array_lh w 201 ⟨p, 0, none⟩ undL2 .i64 .i64 (i : Nat) ((i : Int) + (m : Int) + 1) (by omega) (by omega) (by rw [lenL2]; omega), run_size1, lenL2]
  simp only [Result.andThen_ok, slicedAt, Int.toNat_natCast, Nat.mul_one]
  rw [if_neg (by omega), show ((i : Int) + (m : Int) + 1).toNat - i = m + 1 by omega]
  simp [Addr.add]
  intro h0; exact h0.symm
theorem slice_low {q m : Nat} (h : m < 17) (w : World) :
    (Instr.sliceAt 201 (.pointer (some ⟨q, 0, none⟩)) none (some (.int .i64 (m : Nat))) none).run Tryz.prog w = .ok (.slice (some ⟨q, 0, none⟩) m 17) w := by
  rw [run_sliceAt_array_h w 201 ⟨q, 0, none⟩ undL2 .i64 (m : Nat) (by omega) (by rw [lenL2]; omega), run_size1, lenL2]
  simp [slicedAt, Addr.add]
set_option maxHeartbeats 8000000 in
theorem divide_long (x y : Nat) (hx : x < bp 16) (hy : y < bp 16) (hxy : y ≤ x) (hm2 : 2 ≤ lenL (limb y) 16) (w : World) :
    Calls Tryz.prog 144 #[wideV x, wideV y] w fun e w' => e = .returned (divV x y) ∧ Up w w' := by
  have HLX := hid (length_any x)
  have HLY := hid (length_any y)
  have hn16 := lenL_le (limb x) 16
  have hm16 := lenL_le (limb y) 16
  have hyb := sum_len hy
  have hxb := lt_bp_len hx
  have hyl := lt_bp_len hy
  have hyg := bp_le_of_len (limb y) 16 (by omega)
  have htop := lenL_top (limb y) 16 (by omega)
  rw [sumL_limb, Nat.mod_eq_of_lt hy] at hyg
  obtain ⟨n, hn⟩ : ∃ n, lenL (limb x) 16 = n := ⟨_, rfl⟩
  obtain ⟨m, hm⟩ : ∃ m, lenL (limb y) 16 = m := ⟨_, rfl⟩
  rw [hn] at HLX hn16 hxb
  rw [hm] at HLY hm16 hyl hyg htop hm2
  have hmn : m ≤ n := by
    rcases Nat.lt_or_ge (m - 1) n with h | h
    · omega
    · have := bp_mono h; omega
  obtain ⟨s, hs⟩ : ∃ s, s = 64 - Lib.bitLen (limb y (m - 1)) := ⟨_, rfl⟩
  obtain ⟨hP1, hP2, hs64⟩ := norm_part hyl (by omega) htop hs
  have hlz := fun w => Tryz.bits_LeadingZeros64 (limb y (m - 1) : Nat) w (by omega) (by have := limb_lt y (m - 1); omega)
  have hbl := (bitLen_spec (limb_lt y (m - 1)) htop).2.2.2
  rw [Int.toNat_natCast, show (64 : Int) - (Lib.bitLen (limb y (m - 1)) : Int) = (s : Nat) by omega] at hlz
  have HLZ := hid hlz
  have HL1 := hid (left_any x hx s hs64)
  have HL2 := hid (left_any y hy s hs64)
  have es : IntKind.u64.wrap (s : Int) = (s : Nat) := by rw [IntKind.wrap_u64]; omega
  have em1 : IntKind.i64.wrap ((m : Int) - 1) = ((m - 1 : Nat) : Int) := by rw [IntWalk.i64_in _ (by omega)]; omega
  obtain ⟨m1, hm1⟩ : ∃ m1, m - 1 = m1 := ⟨_, rfl⟩
  rw [hm1] at em1 HLZ htop
  have enm : IntKind.i64.wrap ((n : Int) - (m : Int)) = (n : Int) - (m : Int) := IntWalk.i64_in _ (by omega)
  have HP1 := hid hP1
  have HP2 := hid hP2
  have Hn := hid hxb
  have hy0 := hid (show 0 < y by have := bp_pos (m - 1); omega)
  have Hx := hid hx
  have Hy := hid hy
  have Hm1 := hid hm1
  have ltm : m1 < 16 := by omega
  clear hyb hyg hyl hxb htop hs hlz hbl hP1 hP2 hxy hx hy hn hm hm1
  unfold wideV at HLX HLY HL1 HL2
  unfold longV at HL1 HL2
  have HD := hid (show divV x y = divV x y from rfl)
  unfold wideV
  go_enter Tryz.func144, Tryz.ntmps144
  go_wp2
  refine opU (S := (fun wq => Row wq w.heap.size 33 16 (limb x) ∧ Row wq (w.heap.size + 1) 33 16 (limb y) ∧ Row wq (w.heap.size + 1 + 1) 33 16 (fun _ => 0) ∧ Row wq (w.heap.size + 1 + 1 + 1) 33 16 (fun _ => 0) ∧ Below w.heap.size w wq)) (req := (fun _ => true)) (fun _ _ h hu => ⟨(h.1).up hu, (h.2.1).up hu, (h.2.2.1).up hu, (h.2.2.2.1).up hu, below_up (h.2.2.2.2) hu⟩) ⟨gRow, gRow, gRow, gRow, gUp⟩ (fun wS hSS hSu => ?_)
  have ⟨hS1, hS2, hS3, hS4, hSB⟩ := hSS
  refine tkT 0 (some 15) rfl hSu hSS ?_ (hy := fun w' hSw => run_ld undW infoW _ rfl _ rfl hSw.1)
  refine tkC 1 (some 16) rfl hSu hSS ?_ (hy := fun w' hSw => (HLX.out _))
  refine tkT 2 (some 17) rfl hSu hSS ?_ (hy := fun w' hSw => run_ld undW infoW _ rfl _ rfl hSw.2.1)
  refine tkC 3 (some 18) rfl hSu hSS ?_ (hy := fun w' hSw => (HLY.out _))
  refine tkP 4 (some 6) hSu ?_
  refine tkP 5 (some 7) hSu ?_
  refine wpAnyU_done (by kernel_rfl) (fun wF huE => ?_) _
  have gX := hS1.up huE
  have gY := hS2.up huE
  have gQ := hS3.up huE
  have gR := hS4.up huE
  have gB := below_up hSB huE
  clear hS1 hS2 hS3 hS4 hSB hSS huE
  have hct := gY.cell m1 ltm
  go_upto_region 3 with (first | (go_at_call 137; (with_reducible refine (HLZ.out _).mono ?_); rintro e w' ⟨rfl, rfl⟩))
  clear hct HLX HLY HLZ
  refine opU (S := (fun wq => Row wq w.heap.size 33 16 (limb x) ∧ Row wq (w.heap.size + 1) 33 16 (limb y) ∧ Row wq (w.heap.size + 1 + 1) 33 16 (fun _ => 0) ∧ Row wq (w.heap.size + 1 + 1 + 1) 33 16 (fun _ => 0) ∧ Below w.heap.size w wq)) (req := (fun j => j != 8 && j != 9)) (fun _ _ h hu => ⟨(h.1).up hu, (h.2.1).up hu, (h.2.2.1).up hu, (h.2.2.2.1).up hu, below_up (h.2.2.2.2) hu⟩) ⟨gRow, gRow, gRow, gRow, gUp⟩ (fun wS hSS hSu => ?_)
  have ⟨hS1, hS2, hS3, hS4, hSB⟩ := hSS
  clear gX gY gQ gR gB
  refine tkT 0 (some 25) rfl hSu hSS ?_ (hy := fun w' hSw => run_ld undW infoW _ rfl _ rfl hSw.1)
  refine tkP 1 (some 26) hSu ?_
  refine tkC 2 (some 27) rfl hSu hSS ?_ (hy := fun w' hSw => (HL1.out _))
  refine tkT 3 (some 28) rfl hSu hSS ?_ (hy := fun w' hSw => run_ld undW infoW _ rfl _ rfl hSw.2.1)
  refine tkP 4 (some 29) hSu ?_
  refine tkC 5 (some 30) rfl hSu hSS ?_ (hy := fun w' hSw => (HL2.out _))
  refine wpAnyU_alloc2L (i := 6) (j := 7) (di := 9) (dj := 10) rfl rfl rfl rfl (by decide) rfl rfl rfl rfl (by kernel_rfl) (by kernel_rfl) (by kernel_rfl) (by decide) hSu.out fun w3 p q hw3 hp hq hpq hpl hql => ?_
  try simp only [Act.put, pu1, pu2, pu3]
  have l3 := hS3.lt
  have l4 := hS4.lt
  have lB := hSB.size
  refine wpAnyU_one (i := 8) rfl (by kernel_rfl) (by rfl) fun w4 hw4 => ?_
  refine wp_st_rowN infoL rfl _ _ rfl _ rfl rfl (hp.up hw4) ?_
  refine ⟨fun h => by simp at h, ?_⟩
  try simp only [Act.put, pu1, pu2, pu3]
  refine wpAnyU_one (i := 9) rfl (by kernel_rfl) (by rfl) fun w5 hw5 => ?_
  refine wp_st_rowN infoL rfl _ _ rfl _ rfl rfl (((hq.up hw4).row_other _ (Ne.symm hpq)).up hw5) ?_
  refine ⟨fun h => by simp at h, ?_⟩
  try simp only [Act.put, pu1, pu2, pu3]
  refine wpAnyU_done (by kernel_rfl) (fun wF huE => ?_) _
  have g3 := (((((hS3.up hw3).up hw4).row_other (cells 17 (limb (x * 2 ^ s))) (show w.heap.size + 1 + 1 ≠ p by omega)).up hw5).row_other (cells 17 (limb (y * 2 ^ s))) (show w.heap.size + 1 + 1 ≠ q by omega)).up huE
  have g4 := (((((hS4.up hw3).up hw4).row_other (cells 17 (limb (x * 2 ^ s))) (show w.heap.size + 1 + 1 + 1 ≠ p by omega)).up hw5).row_other (cells 17 (limb (y * 2 ^ s))) (show w.heap.size + 1 + 1 + 1 ≠ q by omega)).up huE
  have gp : Row wF p 201 17 (limb (x * 2 ^ s)) := ((((hp.up hw4).setRow _).up hw5).row_other (cells 17 (limb (y * 2 ^ s))) hpq).up huE
  have gq : Row wF q 201 17 (limb (y * 2 ^ s)) := ((((hq.up hw4).row_other (cells 17 (limb (x * 2 ^ s))) (Ne.symm hpq)).up hw5).setRow _).up huE
  have gB := below_up (below_setRow (below_up (below_setRow (below_up (below_up hSB hw3) hw4) (show w.heap.size ≤ p by omega) (cells 17 (limb (x * 2 ^ s)))) hw5) (show w.heap.size ≤ q by omega) (cells 17 (limb (y * 2 ^ s)))) huE
  have lp : w.heap.size + 1 + 1 + 1 < p := by omega
  have lq : w.heap.size + 1 + 1 + 1 < q := by omega
  clear hS1 hS2 hS3 hS4 hSB hSS hw3 hw4 hw5 huE hp hq hpl hql l3 l4 lB HL1 HL2
  have l1 := gp.lt
  have l2 := gq.lt
  have l5 := gB.size
  go_upto_block 0 with (fail)
  try simp only [Act.put]
  refine wp_worldD (fun wd => Row wd (w.heap.size + 1 + 1) 33 16 (fun _ => 0) ∧ Row wd (w.heap.size + 1 + 1 + 1) 33 16 (fun _ => 0) ∧ Row wd p 201 17 (limb (x * 2 ^ s)) ∧ Row wd q 201 17 (limb (y * 2 ^ s)) ∧ Row wd wF.heap.size 33 16 (fun _ => 0) ∧ Below w.heap.size w wd) ⟨gRow, gRow, gRow, gRow, gRow, gUp⟩ (fun w0 hD => ?_)
  clear g3 g4 gp gq gB
  obtain ⟨g3, g4, gp, gq, gT, gB⟩ := hD
  have lt : p < wF.heap.size ∧ q < wF.heap.size := ⟨l1, l2⟩
  clear l1 l2 l5
  generalize wF.heap.size = t at *
  clear enm em1 es
  obtain ⟨P, hP⟩ : ∃ P, y * 2 ^ s = P := ⟨_, rfl⟩
  obtain ⟨X2, hX2⟩ : ∃ X2, x * 2 ^ s = X2 := ⟨_, rfl⟩
  have HP := hid hP
  have HX2 := hid hX2
  rw [hP] at HP1 HP2 gq
  rw [hX2] at gp
  clear hP hX2
  have hPm : sumL (limb P) m = P := by rw [sumL_limb, Nat.mod_eq_of_lt HP1.out]
  have HPm := hid hPm
  have hP0 : 0 < P := by have := HP2.out; have := bp_pos (m - 1); omega
  have HP0 := hid hP0
  clear hPm hP0
  go_wp2_with fail
  go_loopw [12] (fun ti wr => ∃ (k : Nat) (S T : Nat → Nat), k ≤ n - m + 1 ∧ ti = .int .i64 ((k : Int) - 1) ∧ (∀ j, j < 17 → S j < 18446744073709551616) ∧ (∀ j, j < 16 → T j < 18446744073709551616) ∧ (∀ j, j < k → T j = 0) ∧ X2 = sumL T 16 * P + sumL S 17 ∧ sumL S 17 < P * bp k ∧
      Row wr (w.heap.size + 1 + 1) 33 16 (fun _ => 0) ∧ Row wr (w.heap.size + 1 + 1 + 1) 33 16 (fun _ => 0) ∧ Row wr p 201 17 S ∧ Row wr q 201 17 (limb P) ∧ Row wr t 33 16 T ∧ Below w.heap.size w wr)
    (fun ti _ => (intOf ti + 1).toNat)
  case atStart =>
    refine ⟨n - m + 1, limb X2, fun _ => 0, Nat.le_refl _, ?_, fun j _ => limb_lt _ j, fun _ _ => by simp, fun _ _ => rfl, ?_, ?_, g3, g4, gp, gq, gT, gB⟩
    · congr 1; omega
    · have h1 := Hn.out
      have h2 := HX2.out
      have h3 := bp_mono hn16
      have h4 := bp_succ 16
      have h5 : 2 ^ s ≤ 18446744073709551616 := Nat.pow_le_pow_right (n := 2) (by decide) (show s ≤ 64 by omega)
      have h6 : x * 2 ^ s < bp 16 * 18446744073709551616 := Nat.mul_lt_mul_of_lt_of_le (by omega) h5 (by decide)
      rw [sumL_zeros, sumL_limb, Nat.mod_eq_of_lt (by rw [h4]; omega)]
      omega
    · have h1 := Hn.out
      have h2 := HX2.out
      have h7 := HP2.out
      have h5 : 2 ^ s ≤ 9223372036854775808 := Nat.pow_le_pow_right (n := 2) (by decide) (show s ≤ 63 by omega)
      have h6 : x * 2 ^ s < bp n * 9223372036854775808 := Nat.mul_lt_mul_of_lt_of_le h1 h5 (by decide)
      have h8 : 9223372036854775808 * bp (m - 1) * bp (n - m + 1) ≤ P * bp (n - m + 1) := Nat.mul_le_mul_right _ h7
      rw [Nat.mul_assoc, ← bp_add, show m - 1 + (n - m + 1) = n by omega] at h8
      have h9 := Nat.mod_le X2 (bp 17)
      rw [sumL_limb]
      omega
  case round =>
    clear g3 g4 gp gq gT gB
    obtain ⟨k, S, T, hk, rfl, hS, hT, hT0, hX, hR, g3, g4, gp, gq, gT, gB⟩ := hrel
    have HS := hid hS
    have HT := hid hT
    have HT0 := hid hT0
    have HX := hid hX
    have HR := hid hR
    clear hS hT hT0 hX hR
    rcases Nat.eq_zero_or_pos k with hk0 | hk0
    · subst hk0
      have hE : sumL T 16 = x / y ∧ sumL S 17 / 2 ^ s % bp 16 = x % y := by
        have h1 := HX.out
        have h2 := HR.out
        rw [bp_zero, Nat.mul_one] at h2
        rw [← HX2.out, ← HP.out] at h1
        rw [← HP.out] at h2
        obtain ⟨h3, h4⟩ := long_end hy0.out h1 h2
        refine ⟨h3, ?_⟩
        rw [h4]
        exact Nat.mod_eq_of_lt (Nat.lt_of_le_of_lt (Nat.mod_le _ _) Hx.out)
      have hTl : ∀ j, j < 16 → T j = limb (x / y) j := fun j hj => by rw [← hE.1]; exact (limb_sumL HT.out hj).symm
      have gT2 : Row wr t 33 16 (limb (x / y)) := gT.congr hTl
      have hRt := fun w => right_any S HS.out s hs64 w
      rw [hE.2] at hRt
      unfold longV wideV at hRt
      have HRt := hid hRt
      clear hE hTl hRt gT
      go_wp2_with fail
      refine opU (S := (fun wq => Row wq (w.heap.size + 1 + 1) 33 16 (fun _ => 0) ∧ Row wq (w.heap.size + 1 + 1 + 1) 33 16 (fun _ => 0) ∧ Row wq p 201 17 S ∧ Row wq t 33 16 (limb (x / y)) ∧ Below w.heap.size w wq)) (req := (fun j => j != 4 && j != 5)) (fun _ _ h hu => ⟨(h.1).up hu, (h.2.1).up hu, (h.2.2.1).up hu, (h.2.2.2.1).up hu, below_up (h.2.2.2.2) hu⟩) ⟨gRow, gRow, gRow, gRow, gUp⟩ (fun wS hSS hSu => ?_)
      have ⟨hS1, hS2, hS3, hS4, hSB⟩ := hSS
      clear g3 g4 gp gq gT2 gB
      refine tkT 0 (some 80) rfl hSu hSS ?_ (hy := fun w' hSw => run_ld undW infoW _ rfl _ rfl hSw.2.2.2.1)
      refine tkT 1 (some 81) rfl hSu hSS ?_ (hy := fun w' hSw => run_ld undL infoL _ rfl _ rfl hSw.2.2.1)
      refine tkP 2 (some 82) hSu ?_
      refine tkC 3 (some 83) rfl hSu hSS ?_ (hy := fun w' hSw => (HRt.out _))
      refine wpAnyU_one (i := 4) rfl (by kernel_rfl) (by rfl) fun w4 hw4 => ?_
      refine wp_st_rowN infoW rfl _ _ rfl _ rfl rfl ((hS1.up hw4)) ?_
      refine ⟨fun h => by simp at h, ?_⟩
      try simp only [Act.put, pu1, pu2, pu3]
      refine wpAnyU_one (i := 5) rfl (by kernel_rfl) (by rfl) fun w5 hw5 => ?_
      refine wp_st_rowN infoW rfl _ _ rfl _ rfl rfl ((((hS2.up hw4).row_other _ (show w.heap.size + 1 + 1 + 1 ≠ w.heap.size + 1 + 1 by omega)).up hw5)) ?_
      refine ⟨fun h => by simp at h, ?_⟩
      try simp only [Act.put, pu1, pu2, pu3]
      refine wpAnyU_done (by kernel_rfl) (fun wF huE => ?_) _
      have ga : Row wF (w.heap.size + 1 + 1) 33 16 (limb (x / y)) := ((((hS1.up hw4).setRow _).up hw5).row_other (cells 16 (limb (x % y))) (show w.heap.size + 1 + 1 ≠ w.heap.size + 1 + 1 + 1 by omega)).up huE
      have gb : Row wF (w.heap.size + 1 + 1 + 1) 33 16 (limb (x % y)) := ((((hS2.up hw4).row_other (cells 16 (limb (x / y))) (show w.heap.size + 1 + 1 + 1 ≠ w.heap.size + 1 + 1 by omega)).up hw5).setRow _).up huE
      have gB := below_up (below_setRow (below_up (below_setRow (below_up hSB hw4) (show w.heap.size ≤ w.heap.size + 1 + 1 by omega) (cells 16 (limb (x / y)))) hw5) (show w.heap.size ≤ w.heap.size + 1 + 1 + 1 by omega) (cells 16 (limb (x % y)))) huE
      clear hS1 hS2 hS3 hS4 hSB hSS hw4 hw5 huE
      go_wp2_with fail
      exact bodyPost_ret (resCC rfl undW infoW _ _ _ rfl rfl ga gb) rfl ⟨rfl, gB⟩
    · obtain ⟨i, rfl⟩ : ∃ i, k = i + 1 := ⟨k - 1, by omega⟩
      rw [show ((i + 1 : Nat) : Int) - 1 = (i : Nat) by omega]
      have him : i + m < 17 := by omega
      have hm1 : m = m1 + 1 := by have := Hm1.out; omega
      have HM := hid hm1
      have him1 : i + m1 < 17 := by omega
      have e1 : IntKind.i64.wrap ((i : Int) + (m : Int)) = (i : Int) + (m : Int) := IntWalk.i64_in _ (by omega)
      have e2 : IntKind.i64.wrap ((i : Int) + (m : Int) - 1) = (i : Int) + (m1 : Int) := by rw [IntWalk.i64_in _ (by omega)]; omega
      have e3 : IntKind.i64.wrap ((m : Int) - 1) = (m1 : Int) := by rw [IntWalk.i64_in _ (by omega)]; omega
      have e4 : ((i : Int) + (m : Int)).toNat = i + m := by omega
      have e5 : ((i : Int) + (m1 : Int)).toNat = i + m1 := by omega
      have j1 : (i : Int) + (m : Int) < 17 := by omega
      have j2 : (0 : Int) ≤ (i : Int) + (m : Int) := by omega
      have j3 : (i : Int) + (m1 : Int) < 17 := by omega
      have j4 : (0 : Int) ≤ (i : Int) + (m1 : Int) := by omega
      have j5 : (m1 : Int) < 17 := by omega
      have e6 : IntKind.i64.wrap ((i : Int) + (m : Int) + 1) = (i : Int) + (m : Int) + 1 := IntWalk.i64_in _ (by omega)
      have hgs := fun w => guess_any (S (i + m)) (S (i + m1)) (limb P m1) (HS.out _ him) (HS.out _ him1) (limb_lt _ _) w
      have hgl := guess_lt (h := S (i + m)) (y := limb P m1) (HS.out _ him1)
      obtain ⟨g, hg⟩ : ∃ g, guessN (S (i + m)) (S (i + m1)) (limb P m1) = g := ⟨_, rfl⟩
      rw [hg] at hgs hgl
      have HG := hid hgs
      have Hg := hid hg
      have HGL := hid hgl
      clear hgs hg hgl hm1
      have c1 := gp.cell (i + m) him
      have c2 := gp.cell (i + m1) him1
      have c3 := gq.cell m1 (by omega)
      go_wp2_with fail
      refine opU (S := (fun wq => Row wq (w.heap.size + 1 + 1) 33 16 (fun _ => 0) ∧ Row wq (w.heap.size + 1 + 1 + 1) 33 16 (fun _ => 0) ∧ Row wq p 201 17 S ∧ Row wq q 201 17 (limb P) ∧ Row wq t 33 16 T ∧ wq.cell? ⟨p, i + m, none⟩ = some (.int .u64 (S (i + m) : Nat)) ∧ wq.cell? ⟨p, i + m1, none⟩ = some (.int .u64 (S (i + m1) : Nat)) ∧ wq.cell? ⟨q, m1, none⟩ = some (.int .u64 (limb P m1 : Nat)) ∧ Below w.heap.size w wq)) (req := (fun _ => true)) (fun _ _ h hu => ⟨(h.1).up hu, (h.2.1).up hu, (h.2.2.1).up hu, (h.2.2.2.1).up hu, (h.2.2.2.2.1).up hu, hu.cell (h.2.2.2.2.2.1), hu.cell (h.2.2.2.2.2.2.1), hu.cell (h.2.2.2.2.2.2.2.1), below_up (h.2.2.2.2.2.2.2.2) hu⟩) ⟨gRow, gRow, gRow, gRow, gRow, (by first | assumption | (apply Blk.cell; exact gBlk; exact rfl)), (by first | assumption | (apply Blk.cell; exact gBlk; exact rfl)), (by first | assumption | (apply Blk.cell; exact gBlk; exact rfl)), gUp⟩ (fun wS hSS hSu => ?_)
      have ⟨hS1, hS2, hS3, hS4, hS5, hS6, hS7, hS8, hSB⟩ := hSS
      clear g3 g4 gp gq gT gB c1 c2 c3
      refine tkP 0 (some 38) hSu ?_
      refine tkP 1 (some 39) hSu ?_
      refine tkP 2 (some 40) hSu ?_
      refine tkP 3 (some 41) hSu ?_
      refine tkT 4 (some 42) rfl hSu hSS ?_ (hy := fun w' hSw => by ((try dsimp only at hSw); (try obtain ⟨_, _, _, _, _, _, _, _, _⟩ := hSw); go_simp; (try exact rfl)))
      refine tkP 5 (some 43) hSu ?_
      refine tkP 6 (some 44) hSu ?_
      refine tkP 7 (some 45) hSu ?_
      refine tkP 8 (some 46) hSu ?_
      refine tkP 9 (some 47) hSu ?_
      refine tkT 10 (some 48) rfl hSu hSS ?_ (hy := fun w' hSw => by ((try dsimp only at hSw); (try obtain ⟨_, _, _, _, _, _, _, _, _⟩ := hSw); go_simp; (try exact rfl)))
      refine tkP 11 (some 49) hSu ?_
      refine tkP 12 (some 50) hSu ?_
      refine tkP 13 (some 51) hSu ?_
      refine tkT 14 (some 52) rfl hSu hSS ?_ (hy := fun w' hSw => by ((try dsimp only at hSw); (try obtain ⟨_, _, _, _, _, _, _, _, _⟩ := hSw); go_simp; (try exact rfl)))
      refine tkC 15 (some 53) rfl hSu hSS ?_ (hy := fun w' hSw => (HG.out _))
      refine tkP 16 (some 13) hSu ?_
      refine wpAnyU_done (by kernel_rfl) (fun wF huE => ?_) _
      have g3 := hS1.up huE
      have g4 := hS2.up huE
      have gp := hS3.up huE
      have gq := hS4.up huE
      have gT := hS5.up huE
      have gB := below_up hSB huE
      clear hS1 hS2 hS3 hS4 hS5 hS6 hS7 hS8 hSB hSS huE
      go_wp2_with fail
      refine opU (S := (fun wq => Row wq (w.heap.size + 1 + 1) 33 16 (fun _ => 0) ∧ Row wq (w.heap.size + 1 + 1 + 1) 33 16 (fun _ => 0) ∧ Row wq p 201 17 S ∧ Row wq q 201 17 (limb P) ∧ Row wq t 33 16 T ∧ Below w.heap.size w wq)) (req := (fun j => j != 9)) (fun _ _ h hu => ⟨(h.1).up hu, (h.2.1).up hu, (h.2.2.1).up hu, (h.2.2.2.1).up hu, (h.2.2.2.2.1).up hu, below_up (h.2.2.2.2.2) hu⟩) ⟨gRow, gRow, gRow, gRow, gRow, gUp⟩ (fun wS hSS hSu => ?_)
      have ⟨hS1, hS2, hS3, hS4, hS5, hSB⟩ := hSS
      clear g3 g4 gp gq gT gB
      have sl1 := fun w' => slice_win (p := p) him w'
      have sl2 := fun w' => slice_low (q := q) (m := m) (by omega) w'
      refine tkP 0 (some 54) hSu ?_
      refine tkP 1 (some 55) hSu ?_
      refine tkP 2 (some 56) hSu ?_
      refine tkP 3 (some 57) hSu ?_
      refine tkP 4 (some 58) hSu ?_
      refine tkP 5 (some 59) hSu ?_
      refine tkP 6 (some 60) hSu ?_
      refine tkP 7 (some 61) hSu ?_
      refine tkP 8 (some 62) hSu ?_
      refine wpAnyU_callN (i := 9) (d := some 63) (f := 147) (args := #[.slice (some ⟨p, i, none⟩) (m + 1) (17 - i), .slice (some ⟨q, 0, none⟩) m 17, .int .u64 (g : Nat)]) (R := fun w' v w'' => ∃ (S' : Nat → Nat) (b : Nat), v = .bool (decide (b ≠ 0)) ∧ b ≤ 1 ∧ sumL (fun j => S' (i + j)) (m + 1) + g * P = sumL (fun j => S (i + j)) (m + 1) + b * bp (m + 1) ∧ (∀ j, j < i ∨ i + m < j → S' j = S j) ∧ (∀ j, j < 17 → S' j < 18446744073709551616) ∧ Row w'' p 201 17 S' ∧ Near p w' w'') rfl rfl (by kernel_rfl) (by rfl) rfl (fun w' => by go_simp) (fun w' hw' => ?_) (fun w1 v w2 hw1 hR1 => ?_)
      · refine (take_off p i m q (17 - i) 17 g S (limb P) HS.out (fun j _ => limb_lt _ j) hpq him HGL.out w' (hS3.up hw') (hS4.up hw')).mono ?_
        rintro e w'' ⟨S', b, rfl, h1, h2, h3, h4, h5, h6⟩
        rw [HPm.out] at h2
        exact ⟨_, rfl, S', b, rfl, h1, h2, h3, h4, h5, h6⟩
      try simp only [Act.put, pu1, pu2, pu3]
      obtain ⟨S1, b, rfl, hb, he, ho, hl, gp, hN⟩ := hR1
      have He := hid he
      have Ho := hid ho
      have Hl := hid hl
      clear he ho hl
      refine tkP 10 (some 14) hSu ?_
      refine wpAnyU_done (by kernel_rfl) (fun wF huE => ?_) _
      have l1 := (hSB.size : w.heap.size ≤ wS.heap.size)
      have l2 := hw1.size
      have g3 := (hN.row (show w.heap.size + 1 + 1 ≠ p by omega) (hS1.up hw1)).up huE
      have g4 := (hN.row (show w.heap.size + 1 + 1 + 1 ≠ p by omega) (hS2.up hw1)).up huE
      have gq := (hN.row (Ne.symm hpq) (hS4.up hw1)).up huE
      have gT := (hN.row (show t ≠ p by omega) (hS5.up hw1)).up huE
      have gB := below_up (hN.below (show w.heap.size ≤ p by omega) (below_up hSB hw1) (by omega)) huE
      replace gp := gp.up huE
      clear hS1 hS2 hS3 hS4 hS5 hSB hSS huE hw1 hN l1 l2
      obtain ⟨W, hW⟩ : ∃ W, sumL (fun j => S (i + j)) (m + 1) = W := ⟨_, rfl⟩
      have HW := hid hW
      have hq0 : W / P ≤ g := by
        have h1 := HR.out
        have h2 : m = m1 + 1 := HM.out
        have h3 : W < P * 18446744073709551616 := by
          have h4 : W * bp i ≤ sumL S 17 := by
            obtain ⟨d, hd⟩ : ∃ d, 17 = i + (m + 1) + d := ⟨17 - (i + (m + 1)), by omega⟩
            rw [hd, sumL_split, sumL_split, hW]
            omega
          rw [bp_succ] at h1
          have h5 : W * bp i < P * 18446744073709551616 * bp i := by
            have e : P * 18446744073709551616 * bp i = P * (bp i * 18446744073709551616) := by grind
            omega
          exact Nat.lt_of_mul_lt_mul_right h5
        have h6 := guess_ge (F := fun j => S (i + j)) (V := limb P) (m := m1) (P := P) (W := W) (fun j hj => HS.out _ (by omega)) (by show sumL (fun j => S (i + j)) (m1 + 1 + 1) = W; rw [← h2]; exact hW) (by rw [← h2]; exact HPm.out) HP0.out h3
        rw [← h2, Hg.out] at h6
        exact h6
      have he := He.out
      rw [hW] at he
      clear He
      have He := hid he
      have Hq0 := hid hq0
      clear hW he hq0
      go_wp2_with fail
      go_loopw [13, 14] (fun tg tv wr => ∃ (g b : Nat) (S1 : Nat → Nat), tg = .int .u64 (g : Nat) ∧ tv = .bool (!decide (b = 0)) ∧ b ≤ 1 ∧ g < 18446744073709551616 ∧ W / P ≤ g ∧ sumL (fun j => S1 (i + j)) (m + 1) + g * P = W + b * bp (m + 1) ∧ (∀ j, j < i ∨ i + m < j → S1 j = S j) ∧ (∀ j, j < 17 → S1 j < 18446744073709551616) ∧
          Row wr (w.heap.size + 1 + 1) 33 16 (fun _ => 0) ∧ Row wr (w.heap.size + 1 + 1 + 1) 33 16 (fun _ => 0) ∧ Row wr p 201 17 S1 ∧ Row wr q 201 17 (limb P) ∧ Row wr t 33 16 T ∧ Below w.heap.size w wr)
        (fun tg _ _ => (intOf tg).toNat)
      case atStart => exact ⟨g, b, S1, rfl, rfl, hb, HGL.out, Hq0.out, He.out, Ho.out, Hl.out, g3, g4, gp, gq, gT, gB⟩
      case round =>
        clear g3 g4 gp gq gT gB He Ho Hl Hq0 hb Hg HGL HG S1
        obtain ⟨g, b, S1, rfl, rfl, hb, hgl, hq0, he, ho, hl, g3, g4, gp, gq, gT, gB⟩ := hrel
        have He := hid he
        have Ho := hid ho
        have Hl := hid hl
        have Hq0 := hid hq0
        have Hgl := hid hgl
        clear he ho hl hq0 hgl
        rcases (show b = 0 ∨ b = 1 by omega) with rfl | rfl
        · have he := He.out
          rw [Nat.zero_mul, Nat.add_zero] at he
          obtain ⟨hlt, hgq⟩ := round_end he Hq0.out HP0.out
          have hR2 := HR.out
          have hR3 : sumL S 17 < bp (i + m + 1) := by
            have h1 := HP1.out
            have h2 : P * bp (i + 1) ≤ bp m * bp (i + 1) := Nat.mul_le_mul_right _ (Nat.le_of_lt h1)
            rw [← bp_add, show m + (i + 1) = i + m + 1 by omega] at h2
            omega
          obtain ⟨hX1, hX3⟩ := long_step him (by omega) HS.out HX.out (HT0.out i (by omega)) hR3 HW.out rfl Ho.out he hlt
          have HX1 := hid hX1
          have HX3 := hid hX3
          have e7 : IntKind.i64.wrap ((i : Int) - 1) = (i : Int) - 1 := IntWalk.i64_in _ (by omega)
          have hi16 : (i : Int) < 16 := by omega
          have hct := gT.cell i (by omega)
          have hft := gT.frozen i
          have gT1 := gT.set i g
          have lt1 := lt.1
          have gp1 := gp.other ⟨t, i, none⟩ (.int .u64 (g : Nat)) (show p ≠ t by omega)
          have gq1 := gq.other ⟨t, i, none⟩ (.int .u64 (g : Nat)) (show q ≠ t by omega)
          have g31 := g3.other ⟨t, i, none⟩ (.int .u64 (g : Nat)) (show w.heap.size + 1 + 1 ≠ t by omega)
          have g41 := g4.other ⟨t, i, none⟩ (.int .u64 (g : Nat)) (show w.heap.size + 1 + 1 + 1 ≠ t by omega)
          have gB1 := gB.setCell (p := ⟨t, i, none⟩) (show w.heap.size ≤ t by omega) (.int .u64 (g : Nat))
          clear he hlt hgq hR2 hR3 hX1 hX3 g3 g4 gp gq gT gB
          go_wp2_with fail
          go_roundw
          case rel => exact ⟨i, S1, upd T i g, by omega, rfl, Hl.out, upd_lt HT.out Hgl.out, fun j hj => by rw [upd_other _ _ _ (by omega)]; exact HT0.out j (by omega), HX1.out, HX3.out, g31, g41, gp1, gq1, gT1, gB1⟩
          case measure => simp [intOf] <;> omega
        · have he := He.out
          rw [Nat.one_mul] at he
          have hW1 := sumL_lt (f := fun j => S1 (i + j)) (k := m + 1) fun j hj => Hl.out _ (by omega)
          obtain ⟨hg1, hq1⟩ := round_more he hW1 HP0.out
          obtain ⟨G, hG⟩ : ∃ G, g - 1 = G := ⟨_, rfl⟩
          rw [hG] at hq1
          have HGg := hid hG
          have HGq := hid hq1
          have HG1 := hid hg1
          have hgl := Hgl.out
          have eg : IntKind.u64.wrap ((g : Int) - 1) = (G : Nat) := by rw [IntKind.wrap_u64]; omega
          clear he hW1 hg1 hq1 hG hgl
          go_wp2_with fail
          refine opU (S := (fun wq => Row wq (w.heap.size + 1 + 1) 33 16 (fun _ => 0) ∧ Row wq (w.heap.size + 1 + 1 + 1) 33 16 (fun _ => 0) ∧ Row wq p 201 17 S1 ∧ Row wq q 201 17 (limb P) ∧ Row wq t 33 16 T ∧ Below w.heap.size w wq)) (req := (fun j => j != 8)) (fun _ _ h hu => ⟨(h.1).up hu, (h.2.1).up hu, (h.2.2.1).up hu, (h.2.2.2.1).up hu, (h.2.2.2.2.1).up hu, below_up (h.2.2.2.2.2) hu⟩) ⟨gRow, gRow, gRow, gRow, gRow, gUp⟩ (fun wS hSS hSu => ?_)
          have ⟨hS1, hS2, hS3, hS4, hS5, hSB⟩ := hSS
          clear g3 g4 gp gq gT gB
          refine tkP 0 (some 67) hSu ?_
          refine tkP 1 (some 68) hSu ?_
          refine tkP 2 (some 69) hSu ?_
          refine tkP 3 (some 70) hSu ?_
          refine tkP 4 (some 71) hSu ?_
          refine tkP 5 (some 72) hSu ?_
          refine tkP 6 (some 73) hSu ?_
          refine tkP 7 (some 74) hSu ?_
          refine wpAnyU_callN (i := 8) (d := some 75) (f := 148) (args := #[.slice (some ⟨p, i, none⟩) (m + 1) (17 - i), .slice (some ⟨q, 0, none⟩) m 17]) (R := fun w' v w'' => ∃ (S' : Nat → Nat) (b : Nat), v = .bool (decide (b ≠ 0)) ∧ b ≤ 1 ∧ sumL (fun j => S' (i + j)) (m + 1) + b * bp (m + 1) = sumL (fun j => S1 (i + j)) (m + 1) + P ∧ (∀ j, j < i ∨ i + m < j → S' j = S1 j) ∧ (∀ j, j < 17 → S' j < 18446744073709551616) ∧ Row w'' p 201 17 S' ∧ Near p w' w'') rfl rfl (by kernel_rfl) (by rfl) rfl (fun w' => by go_simp) (fun w' hw' => ?_) (fun w1 v w2 hw1 hR1 => ?_)
          · refine (put_back p i m q (17 - i) 17 S1 (limb P) Hl.out (fun j _ => limb_lt _ j) hpq him w' (hS3.up hw') (hS4.up hw')).mono ?_
            rintro e w'' ⟨S', b, rfl, h1, h2, h3, h4, h5, h6⟩
            rw [HPm.out] at h2
            exact ⟨_, rfl, S', b, rfl, h1, h2, h3, h4, h5, h6⟩
          try simp only [Act.put, pu1, pu2, pu3]
          obtain ⟨S2, b', rfl, hb', he2, ho2, hl2, gp, hN⟩ := hR1
          have Hn2 := hid (round_next (b := b') (by have := He.out; rw [Nat.one_mul] at this; exact this) he2 HG1.out hb')
          have Ho2 := hid ho2
          have Hl2 := hid hl2
          clear he2 ho2 hl2
          rcases (show b' = 0 ∨ b' = 1 by omega) with rfl | rfl
          · skip
            refine tkP 9 (some 76) hSu ?_
            refine tkP 10 (some 14) hSu ?_
            refine wpAnyU_done (by kernel_rfl) (fun wF huE => ?_) _
            have l1 := (hSB.size : w.heap.size ≤ wS.heap.size)
            have l2 := hw1.size
            have g3 := (hN.row (show w.heap.size + 1 + 1 ≠ p by omega) (hS1.up hw1)).up huE
            have g4 := (hN.row (show w.heap.size + 1 + 1 + 1 ≠ p by omega) (hS2.up hw1)).up huE
            have gq := (hN.row (Ne.symm hpq) (hS4.up hw1)).up huE
            have gT := (hN.row (show t ≠ p by omega) (hS5.up hw1)).up huE
            have gB := below_up (hN.below (show w.heap.size ≤ p by omega) (below_up hSB hw1) (by omega)) huE
            replace gp := gp.up huE
            clear hS1 hS2 hS3 hS4 hS5 hSB hSS huE hw1 hN l1 l2 hb'
            go_wp2_with fail
            go_roundw
            case rel =>
              have h1 := Hn2.out
              rw [HGg.out] at h1
              exact ⟨G, 1, S2, rfl, rfl, by omega, by have := Hgl.out; have := HGg.out; omega, HGq.out, h1, fun j hj => (Ho2.out j hj).trans (Ho.out j hj), Hl2.out, g3, g4, gp, gq, gT, gB⟩
            case measure => have := HGg.out; have := HG1.out; simp [intOf] <;> omega
          · skip
            refine tkP 9 (some 76) hSu ?_
            refine tkP 10 (some 14) hSu ?_
            refine wpAnyU_done (by kernel_rfl) (fun wF huE => ?_) _
            have l1 := (hSB.size : w.heap.size ≤ wS.heap.size)
            have l2 := hw1.size
            have g3 := (hN.row (show w.heap.size + 1 + 1 ≠ p by omega) (hS1.up hw1)).up huE
            have g4 := (hN.row (show w.heap.size + 1 + 1 + 1 ≠ p by omega) (hS2.up hw1)).up huE
            have gq := (hN.row (Ne.symm hpq) (hS4.up hw1)).up huE
            have gT := (hN.row (show t ≠ p by omega) (hS5.up hw1)).up huE
            have gB := below_up (hN.below (show w.heap.size ≤ p by omega) (below_up hSB hw1) (by omega)) huE
            replace gp := gp.up huE
            clear hS1 hS2 hS3 hS4 hS5 hSB hSS huE hw1 hN l1 l2 hb'
            go_wp2_with fail
            go_roundw
            case rel =>
              have h1 := Hn2.out
              rw [HGg.out] at h1
              exact ⟨G, 0, S2, rfl, rfl, by omega, by have := Hgl.out; have := HGg.out; omega, HGq.out, h1, fun j hj => (Ho2.out j hj).trans (Ho.out j hj), Hl2.out, g3, g4, gp, gq, gT, gB⟩
            case measure => have := HGg.out; have := HG1.out; simp [intOf] <;> omega
set_option maxHeartbeats 1000000 in
theorem divide_many (x y : Nat) (hx : x < bp 16) (hy : y < bp 16) (h : ¬ x < y) (h1 : 2 ≤ lenL (limb y) 16) (w : World) :
    Calls Tryz.prog 132 #[wideV x, wideV y] w fun e w' => e = .returned (divV x y) ∧ Up w w' := by
  have hO := fun w => order_any x y hx hy w
  have ho := ordZ_ge h
  have hL := fun w => length_any y w
  have hD := fun w => divide_long x y hx hy (by omega) h1 w
  obtain ⟨n, hn⟩ : ∃ n, lenL (limb y) 16 = n := ⟨_, rfl⟩
  rw [hn] at hL h1
  have hn1 : ((n : Int) == 1) = false := by simp; omega
  have HO := hid hO
  have HL := hid hL
  unfold divV at *
  clear hO hL h hn
  generalize ordZ x y = oz at *
  have hoz : ¬ oz < 0 := by omega
  obtain ⟨q, eq⟩ : ∃ q, x / y = q := ⟨_, rfl⟩
  obtain ⟨r, er⟩ : ∃ r, x % y = r := ⟨_, rfl⟩
  rw [eq, er] at hD ⊢
  clear eq er
  unfold wideV at *
  have HD := hid hD
  clear hD
  go_enter Tryz.func132, Tryz.ntmps132
  go_wp2_with (first | ((with_reducible apply ld_rowP undW infoW); exact rfl; exact rfl; exact gRow) | ((with_reducible apply st_rowP infoW); exact rfl; exact rfl; exact gRow) | ((with_reducible apply st_rowZ infoW); exact rfl; exact rfl; exact gRow) | (go_at_call 122; refine (HO.out _).mono ?_; rintro e w' ⟨rfl, hu⟩) | (go_at_call 140; refine (HL.out _).mono ?_; rintro e w' ⟨rfl, hu⟩) | (go_at_call 144; refine (HD.out _).mono ?_; rintro e w' ⟨rfl, hu⟩))
  exact bodyPost_ret (resCC rfl undW infoW _ _ _ rfl rfl gRow gRow) rfl ⟨rfl, gUp⟩
theorem divide_any {x y : Nat} (hx : x < bp 16) (hy : y < bp 16) (h0 : y ≠ 0) (w : World) :
    Calls Tryz.prog 132 #[wideV x, wideV y] w fun e w' => e = .returned (divV x y) ∧ Up w w' := by
  by_cases h : x < y
  · exact divide_less x y hx hy h w
  · have h1 : lenL (limb y) 16 ≠ 0 := fun e => by
      have := (lenL_zero_iff (limb y) 16).1 e
      rw [sumL_limb, Nat.mod_eq_of_lt hy] at this
      exact h0 this
    by_cases h2 : lenL (limb y) 16 = 1
    · exact divide_one x y hx hy h h2 w
    · exact divide_many x y hx hy h (by omega) w
theorem div_any {a b : Int} (ha : InR a) (hb' : InR b) (w : World) :
    Calls Tryz.prog 111 #[wideV (enc a), wideV (enc b)] w fun e w' => e = .returned (divZV a b) ∧ Up w w' :=
  div_z ha hb' (fun h w => divide_any (enc_natAbs ha).2 (enc_natAbs hb').2 (by omega) w) w
def tk (F R : List Int) (q : Int) (n : Nat) : List Int := mk n fun i => (zth F 0 * zth R (i + 1) - zth R 0 * zth F (i + 1)).tdiv q
def Few (l : List Int) : Prop := ∀ i, (zth l i).natAbs < bp 5
theorem mul_bp {a b : Int} {i j : Nat} (ha : a.natAbs < bp i) (hb' : b.natAbs < bp j) : (a * b).natAbs < bp (i + j) := by
  rw [Int.natAbs_mul, bp_add]
  exact Nat.mul_lt_mul_of_lt_of_lt ha hb'
theorem drop1_range {w : World} {g : Nat} {C : Array Value} {l : List Int} {n : Nat} (hB : Blk w g 33 C) (ht : C.toList.take (l.length * 16) = wcs l) (hl : l.length = n + 1) : w.rangeAt g 16 (wcs (l.drop 1)) := by
  intro j v hv
  have hj : j < n * 16 := by have := (List.getElem?_eq_some_iff.1 hv).1; rw [wcs_len, List.length_drop, hl] at this; omega
  refine hB.cell _ ?_
  rw [← wcs_drop (i := 1) (by omega), List.getElem?_drop, ← ht, List.getElem?_take_of_lt (by omega)] at hv
  rw [← Array.getElem?_toList]
  exact hv
theorem zth_drop (l : List Int) (i : Nat) : zth (l.drop 1) i = zth l (i + 1) := by
  unfold zth
  rw [List.getD_eq_getElem?_getD, List.getD_eq_getElem?_getD, List.getElem?_drop, Nat.add_comm]
theorem few_inR {z : Int} {k : Nat} (hk : k ≤ 15) (h : z.natAbs < bp k) : InR z := inR_bp hk h
theorem tdiv_bp {a b : Int} {k : Nat} (h : a.natAbs < bp k) : (a.tdiv b).natAbs < bp k := by
  rw [Int.natAbs_tdiv]
  exact Nat.lt_of_le_of_lt (Nat.div_le_self _ _) h
theorem up_var {w0 w2 w3 w4 : World} {C D : Array Value} {t : TypeId} (h : Up w0 w2) (h3 : Up (w2.alloc (.cells C t)) w3) (h4 : Up (w3.setRow w2.heap.size D) w4) : Up w0 w4 :=
  Up.trans (below_setRow ((h.trans (Up.alloc _ _)).trans h3) h.size D) h4
set_option maxHeartbeats 8000000 in
theorem takenoff_any {vf vr : Value} {F R : List Int} {q : Int} {n : Nat} {w : World} (hF : Wv w vf F) (hR : Wv w vr R) (lF : F.length = n + 1) (lR : R.length = n + 1) (hn : n ≤ 8)
    (bF : Few F) (bR : Few R) (bq : q.natAbs < bp 5) (q0 : q ≠ 0) :
    Calls Tryz.prog 80 #[vf, vr, wideV (enc q)] w fun r w' => ∃ z, r = .returned z ∧ Up w w' ∧ ∃ b, w.heap.size ≤ b ∧ OwnW w' b z (tk F R q n) := by
  obtain ⟨gF, cF, CF, rfl, -, hBF, htF⟩ := hF.open (by omega)
  obtain ⟨gR, cR, CR, rfl, hcR, hBR, htR⟩ := hR.open (by omega)
  obtain ⟨old, hold⟩ : ∃ o, R.drop 1 = o := ⟨_, rfl⟩
  obtain rfl : n = old.length := by rw [← hold, List.length_drop]; omega
  have hRng16 : ∀ w', Blk w' gR 33 CR → w'.rangeAt gR 16 (wcs old) := fun w' hB => hold ▸ drop1_range hB htR lR
  have HRng16 := hid hRng16
  have HRng0 : Hid (old.length = 0 → ∀ (w' : World) g o, w'.rangeAt g o (wcs old)) := hid (fun h w' g o j v hv => by rw [List.length_eq_zero_iff.1 h] at hv; exact absurd hv (by simp [wcs]))
  have HRO : Hid (∀ i, zth old i = zth R (i + 1)) := hid (fun i => by rw [← hold, zth_drop])
  rw [lF, lR]
  rw [lR] at hcR
  obtain ⟨L', hL'⟩ : ∃ x, tk F R q old.length = x := ⟨_, rfl⟩
  have hlL : L'.length = old.length := by rw [← hL']; exact mk_len _ _
  have HlL := hid hlL
  have HAt : Hid (∀ i, i < old.length → zth L' i = (zth F 0 * zth R (i + 1) - zth R 0 * zth F (i + 1)).tdiv q) := hid (fun i hi => by rw [← hL']; exact mk_at hi)
  have HtF := hid htF
  have HtR := hid htR
  have HlF := hid lF
  have HlR := hid lR
  have hq : InR q := few_inR (by omega) bq
  rw [hL']
  obtain ⟨wS, hwS⟩ : ∃ x, w.alloc (.cells (cells 16 (limb (enc q))) 33) = x := ⟨_, rfl⟩
  have hBox : Row wS w.heap.size 33 16 (limb (enc q)) := by rw [← hwS]; exact row_newc _ _ _ rfl
  have hUS : Up w wS := by rw [← hwS]; exact Up.alloc _ _
  have hBFS := hBF.up hUS
  have hBRS := hBR.up hUS
  have hszS : wS.heap.size = w.heap.size + 1 := by rw [← hwS]; simp
  have hgF := hBF.lt
  have hgR := hBR.lt
  clear hF hR hold hRng16 hL' hlL htF htR lF lR hBF hBR
  obtain ⟨c2, rfl⟩ : ∃ c2, cR = c2 + 1 := ⟨cR - 1, by omega⟩
  unfold wideV at *
  rcases c2 with _ | c2
  · obtain rfl : old = [] := List.length_eq_zero_iff.1 (by omega)
    obtain rfl : L' = [] := List.length_eq_zero_iff.1 HlL.out
    go_enter Tryz.func80, Tryz.ntmps80
    go_wp2_with (first
      | ((with_reducible apply appW (l := []) (m := [])); exact rfl; exact rfl; exact OwnW.nil _ wS.heap.size; exact HRng0.out rfl _ _ _; exact Nat.le_refl _; (focus (simp; done)); (focus (simp; done)); rintro v1 w1 hO1 - hb1; rw [List.nil_append] at hO1; obtain ⟨pL, cL, rfl⟩ := hO1.slice))
    go_loopg [20] 1 (fun g ti wr => ti = .int .i64 0 ∧ OwnW wr wS.heap.size (.slice pL 0 cL) [] ∧ Up wS wr)
    case atStart => exact ⟨rfl, hO1, hb1⟩
    case round =>
      clear hO1 hb1
      obtain ⟨rfl, hO1, hb1⟩ := hrel
      go_wp2_with fail
      go_ret
      exact ⟨_, rfl, hUS.trans hb1, _, hUS.size, hO1⟩
  · go_enter Tryz.func80, Tryz.ntmps80
    go_wp2_with (first
      | ((with_reducible apply appW (l := []) (m := old)); exact rfl; exact rfl; exact OwnW.nil _ wS.heap.size; (first | exact HRng16.out _ hBRS | exact HRng0.out (by omega) _ _ _); exact Nat.le_refl _; (focus (simp; done)); (focus omega); rintro v1 w1 hO1 - hb1; rw [List.nil_append] at hO1; obtain ⟨pL, cL, rfl⟩ := hO1.slice))
    have hU1 : Up wS w1 := hb1
    go_loopg [20] old.length (fun g ti wr => ∃ i : Nat, i ≤ old.length ∧ old.length - i ≤ g ∧ ti = .int .i64 (i : Nat) ∧ OwnW wr wS.heap.size (.slice pL old.length cL) (mixed L' old i) ∧ Up wS wr)
    case atStart => exact ⟨0, Nat.zero_le _, by omega, rfl, by rw [mixed_zero]; exact hO1, hU1⟩
    case round =>
      clear hO1 hU1 hb1
      obtain ⟨i, hi, hig, rfl, hO, hu⟩ := hrel
      by_cases hlt : i < old.length
      · have hml := mixed_len HlL.out i
        obtain ⟨gL, cL', CL, hv, hbL, hBL, -, -, -, htL⟩ := hO.open (by omega)
        injection hv with x1 x2 x3
        subst x1 x3
        have hmi : zth (mixed L' old i) i = zth R (i + 1) := by rw [mixed_at HlL.out hlt, HRO.out]
        have hRL : ∀ w', Blk w' gL 33 CL → w'.rangeAt gL (i * 16) (wc (zth R (i + 1))) := fun w' hB => hmi ▸ wv_range hB htL (by omega)
        have HRL := hid hRL
        have HRF0 := hid (fun w' (hB : Blk w' gF 33 CF) => wv_range hB HtF.out (i := 0) (by rw [HlF.out]; omega))
        have HRFi := hid (fun w' (hB : Blk w' gF 33 CF) => wv_range hB HtF.out (i := i + 1) (by rw [HlF.out]; omega))
        have HRR0 := hid (fun w' (hB : Blk w' gR 33 CR) => wv_range hB HtR.out (i := 0) (by rw [HlR.out]; omega))
        have hat := HAt.out i hlt
        have b1 : (zth F 0 * zth R (i + 1)).natAbs < bp 10 := mul_bp (bF 0) (bR (i + 1))
        have b2 : (zth R 0 * zth F (i + 1)).natAbs < bp 10 := mul_bp (bR 0) (bF (i + 1))
        have HM1 := hid (fun w => mul_z (few_inR (by omega) (bF 0)) (few_inR (by omega) (bR (i + 1))) w)
        have HM2 := hid (fun w => mul_z (few_inR (by omega) (bR 0)) (few_inR (by omega) (bF (i + 1))) w)
        rw [opt_yes (few_inR (by omega) b1)] at HM1
        rw [opt_yes (few_inR (by omega) b2)] at HM2
        have b3 : (zth F 0 * zth R (i + 1) - zth R 0 * zth F (i + 1)).natAbs < bp 11 := by
          have e : bp 11 = bp 10 * 18446744073709551616 := bp_succ 10
          have := Int.natAbs_sub_le (zth F 0 * zth R (i + 1)) (zth R 0 * zth F (i + 1))
          omega
        have HS := hid (fun w => sub_z (few_inR (by omega) b1) (few_inR (by omega) b2) w)
        rw [opt_yes (few_inR (by omega) b3)] at HS
        have HD := hid (fun w => div_any (few_inR (by omega) b3) hq w)
        have hdv : divZV (zth F 0 * zth R (i + 1) - zth R 0 * zth F (i + 1)) q = .tuple #[wideV (enc (zth L' i)), wideV (enc ((zth F 0 * zth R (i + 1) - zth R 0 * zth F (i + 1)).tmod q)), .bool true] := by
          unfold divZV
          rw [if_neg (by rintro (h | h); exact q0 h; exact h (few_inR (by omega) (tdiv_bp b3))), ← hat]
        rw [hdv] at HD
        have HSet := hid (mixed_set HlL.out hlt)
        clear b1 b2 b3 hdv hat hRL hmi htL hml x2
        generalize (zth F 0 * zth R (i + 1) - zth R 0 * zth F (i + 1)).tmod q = rest at *
        generalize zth F 0 * zth R (i + 1) - zth R 0 * zth F (i + 1) = dif at *
        go_wp2_with fail
        have hBFr := hBFS.up hu
        have hBRr := hBRS.up hu
        have hBxr := hBox.up hu
        have hgL : wS.heap.size ≤ gL := by omega
        unfold wideV at *
        trace_state
        refine opU (S := (fun wq => Up wr wq ∧ Below w.heap.size w wq)) (req := (fun j => j != 12)) (fun _ _ h hu => ⟨(h.1).trans hu, below_up (h.2) hu⟩) ⟨(by first | exact Up.refl _ | assumption), gUp⟩ (fun wS hSS hSu => ?_)
        have ⟨hS1, hSB⟩ := hSS
        refine tkP 0 (some 24) hSu ?_
        refine tkP 1 (some 25) hSu ?_
        refine tkT 2 (some 26) rfl hSu hSS ?_ (hy := fun w' hSw => run_ldW rfl rfl (HRF0.out _ (hBFr.up hSw.1)))
        refine tkP 3 (some 27) hSu ?_
        refine tkP 4 (some 28) hSu ?_
        refine tkP 5 (some 29) hSu ?_
        refine tkT 6 (some 30) rfl hSu hSS ?_ (hy := fun w' hSw => run_ldW rfl rfl (HRL.out _ (hBL.up hSw.1)))
        refine tkC 7 (some 31) rfl hSu hSS ?_ (hy := fun w' hSw => (HM1.out _))
        refine tkP 8 (some 23) hSu ?_
        refine tkP 9 (some 32) hSu ?_
        refine tkP 10 (some 33) hSu ?_
        refine wpAnyU_allocW (i := 11) (d := (some 9)) rfl rfl (by kernel_rfl) (by rfl) rfl hSu.out fun w2 hw2 => ?_
        try simp only [Act.put, pu1, pu2, pu3]
        refine wpAnyU_one (i := 12) rfl (by kernel_rfl) (by rfl) fun w3 hw3 => ?_
        refine wp_st_rowN infoW rfl _ _ rfl _ rfl rfl ((Row.up (row_newc _ 16 _ rfl) hw3)) ?_
        refine ⟨fun h => by simp at h, ?_⟩
        try simp only [Act.put, pu1, pu2, pu3]
        refine tkP 13 (some 10) hSu ?_
        refine wpAnyU_done (by kernel_rfl) (fun wF huE => ?_) _
        have hP1 := ((Row.up (row_newc 33 16 (fun _ => 0) (rfl : w2.heap.size = w2.heap.size)) hw3).setRow (limb (enc (zth F 0 * zth R (i + 1))))).up huE
        have hx1 := up_var (hS1.trans hw2) hw3 huE
        have hlt1 := Nat.le_trans hu.size (hS1.trans hw2).size
        clear hS1 hSB hSS hw2 hw3 huE
        obtain ⟨wA, hwA⟩ : ∃ x, wF = x := ⟨_, rfl⟩
        rw [hwA] at hP1 hx1 ⊢
        clear hwA
        obtain ⟨b1, hb1⟩ : ∃ x, w2.heap.size = x := ⟨_, rfl⟩
        rw [hb1] at hP1 hlt1 ⊢
        clear hb1
        have hBFA := hBFr.up hx1
        have hBRA := hBRr.up hx1
        have e1 : IntKind.i64.wrap ((i : Int) + 1) = (i : Int) + 1 := IntWalk.i64_in _ (by omega)
        have e2 : (0 : Int) ≤ (i : Int) + 1 ∧ (i : Int) + 1 < (old.length : Int) + 1 := by omega
        go_wp2_with fail
        refine opU (S := (fun wq => Up wA wq ∧ Below w.heap.size w wq)) (req := (fun j => j != 13)) (fun _ _ h hu => ⟨(h.1).trans hu, below_up (h.2) hu⟩) ⟨(by first | exact Up.refl _ | assumption), gUp⟩ (fun wS hSS hSu => ?_)
        have ⟨hS1, hSB⟩ := hSS
        refine tkP 0 (some 35) hSu ?_
        refine tkP 1 (some 36) hSu ?_
        refine tkT 2 (some 37) rfl hSu hSS ?_ (hy := fun w' hSw => run_ldW rfl rfl (HRR0.out _ (hBRA.up hSw.1)))
        refine tkP 3 (some 38) hSu ?_
        refine tkP 4 (some 39) hSu ?_
        refine tkP 5 (some 40) hSu ?_
        refine tkP 6 (some 41) hSu ?_
        refine tkT 7 (some 42) rfl hSu hSS ?_ (hy := fun w' hSw => run_ldW rfl rfl (HRFi.out _ (hBFA.up hSw.1)))
        refine tkC 8 (some 43) rfl hSu hSS ?_ (hy := fun w' hSw => (HM2.out _))
        refine tkP 9 (some 34) hSu ?_
        refine tkP 10 (some 44) hSu ?_
        refine tkP 11 (some 45) hSu ?_
        refine wpAnyU_allocW (i := 12) (d := (some 11)) rfl rfl (by kernel_rfl) (by rfl) rfl hSu.out fun w4 hw4 => ?_
        try simp only [Act.put, pu1, pu2, pu3]
        refine wpAnyU_one (i := 13) rfl (by kernel_rfl) (by rfl) fun w5 hw5 => ?_
        refine wp_st_rowN infoW rfl _ _ rfl _ rfl rfl ((Row.up (row_newc _ 16 _ rfl) hw5)) ?_
        refine ⟨fun h => by simp at h, ?_⟩
        try simp only [Act.put, pu1, pu2, pu3]
        refine tkP 14 (some 12) hSu ?_
        refine wpAnyU_done (by kernel_rfl) (fun wF huE => ?_) _
        have hP2 := ((Row.up (row_newc 33 16 (fun _ => 0) (rfl : w4.heap.size = w4.heap.size)) hw5).setRow (limb (enc (zth R 0 * zth F (i + 1))))).up huE
        have hx2 := up_var (hS1.trans hw4) hw5 huE
        clear hS1 hSB hSS hw4 hw5 huE
        obtain ⟨wB, hwB⟩ : ∃ x, wF = x := ⟨_, rfl⟩
        rw [hwB] at hP2 hx2 ⊢
        clear hwB
        obtain ⟨b2, hb2⟩ : ∃ x, w4.heap.size = x := ⟨_, rfl⟩
        rw [hb2] at hP2 ⊢
        clear hb2
        replace hP1 := hP1.up hx2
        have hx12 := hx1.trans hx2
        have hBxB := hBxr.up hx12
        have hBLB := hBL.up hx12
        have hOB := hO.up hx12
        have huB := hu.trans hx12
        have hltB := hBxB.lt
        clear hx1 hx2 hBFA hBRA
        generalize zth F 0 * zth R (i + 1) = p1 at *
        generalize zth R 0 * zth F (i + 1) = p2 at *
        go_wp2_with (first
          | ((with_reducible apply ld_rowP undW infoW); exact rfl; exact rfl; exact gRow)
          | (go_at_call 110; (with_reducible refine (HS.out _).mono ?_); rintro r w6 ⟨rfl, hu6⟩; have hs6 := hu6.size)
          | ((with_reducible apply st_rowP infoW); exact rfl; exact rfl; exact gRow) | ((with_reducible apply st_rowZ infoW); exact rfl; exact rfl; exact gRow)
          | (go_at_call 111; (with_reducible refine (HD.out _).mono ?_); rintro r w7 ⟨rfl, hu7⟩; have hx7 : Up wB w7 := Up.trans gUp hu7; have hBL7 := hBLB.up hx7; have hset := (hOB.up hx7).set hBL7 (i := i) (by rw [mixed_len HlL.out]; exact hlt) (zth L' i); rw [HSet.out] at hset; have hu8 := below_setRow (huB.trans hx7) hgL (splW CL (i * 16) (zth L' i)))
          | ((with_reducible apply stW_P); exact rfl; exact rfl; exact hBL7; exact hset.2))
        go_roundg (old.length - (i + 1))
        case measure => omega
        case rel => exact ⟨i + 1, hlt, Nat.le_refl _, rfl, hset.1, hu8⟩
      · obtain rfl : i = old.length := by omega
        rw [← HlL.out, mixed_all HlL.out] at hO
        go_wp2_with fail
        go_ret
        rw [HlL.out] at hO
        exact ⟨_, rfl, hUS.trans hu, _, hUS.size, hO⟩
end Go.Proofs.YtnpaodlhhcnbgaaGreatDoor
