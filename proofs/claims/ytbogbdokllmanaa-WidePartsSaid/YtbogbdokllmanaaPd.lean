/-
  What the claim's law is built of: Divide, Div, Round, Known, Pow, RefA, RefB, RefC, RefD.
-/
import Derived.Test.YtbogbdokllmanaaPc
import Derived.ChangeSame
import Derived.BigQuiet
import Derived.Deep.QuietTactic
/-
  wide.divide: amounts' quotients and rests, by a divisor that is above the dividend, or of one limb.
-/
namespace Go.Proofs.Ytbogbdokllmanaa
open Go Go.RowKit
set_option maxRecDepth 100000

theorem wp_st_rowZ {P : Program} {t : TypeId} {o : Oper} {a : Act} {w : World} {K : Act → World → Prop} {Q : Exit → Act → World → Prop} (hi : (P.info? t).map (·.size) = some 16) (hd : o.dst = none) (x y : Operand) (ho : o.op = .store t x y) (g : Nat)
    (hx : a.eval x = .pointer (some ⟨g, 0, none⟩)) {f : Nat → Nat} (hy : a.eval y = .agg #[.int .u64 0, .int .u64 0, .int .u64 0, .int .u64 0, .int .u64 0, .int .u64 0, .int .u64 0, .int .u64 0, .int .u64 0, .int .u64 0, .int .u64 0, .int .u64 0, .int .u64 0, .int .u64 0, .int .u64 0, .int .u64 0])
    (hC : Row w g t 16 f) (h : K a (w.setRow g (cells 16 (fun _ => 0)))) : o.wp P a w K Q :=
  wp_st_rowN hi hd x y ho g hx (by rw [hy, zeros16]) hC h
/-- What a division of amounts tells. -/
def divV (x y : Nat) : Value := .tuple #[wideV (x / y), wideV (x % y)]
theorem ordZ_lt {x y : Nat} (h : x < y) : ordZ x y = -1 := by simp [ordZ, h]
theorem ordZ_ge {x y : Nat} (h : ¬ x < y) : 0 ≤ ordZ x y := by
  unfold ordZ
  rw [if_neg h]
  split <;> omega
set_option maxHeartbeats 1000000 in
theorem divide_less (x y : Nat) (hx : x < bp 16) (hy : y < bp 16) (h : x < y) (w : World) :
    Calls Try.prog 29 #[wideV x, wideV y] w fun e w' => e = .returned (divV x y) ∧ Up w w' := by
  have hO := fun w => order_any x y hx hy w
  rw [ordZ_lt h] at hO
  have HO := hid hO
  unfold divV
  rw [Nat.div_eq_of_lt h, Nat.mod_eq_of_lt h, zeroW]
  clear hO
  unfold wideV at *
  go_enter Try.func29, Try.ntmps29
  go_wp2_with (first | ((with_reducible apply ld_rowP undW infoW); exact rfl; exact rfl; focus (repeat (first | assumption | ((with_reducible apply row_newc); (focus (first | rfl | (simp; done)))) | ((with_reducible apply row_newz); (focus (first | rfl | (simp; done)))) | (with_reducible apply row_same) | ((with_reducible apply row_else); (focus (first | (simp; done) | (simp; omega) | omega))) | (with_reducible apply row_alloc) | (with_reducible apply row_drew) | (with_reducible apply row_drewN) | ((with_reducible apply row_up); assumption)))) | (go_at_call 45; refine (HO.out _).mono ?_; rintro e w' ⟨rfl, hu⟩))
  refine wp_region_upH (S := (fun wq => Row wq w.heap.size 27 16 (limb x) ∧ ExRow wq (w.heap.size + 1 + 1) 27 16 ∧ ExRow wq (w.heap.size + 1 + 1 + 1) 27 16 ∧ Below w.heap.size w wq)) (req := (fun j => j != 3)) (by kernel_rfl) (fun _ _ h hu => ⟨(h.1).up hu, (h.2.1).up hu, (h.2.2.1).up hu, below_up (h.2.2.2) hu⟩) ⟨(by (repeat (first | assumption | ((with_reducible apply row_newc); (focus (first | rfl | (simp; done)))) | ((with_reducible apply row_newz); (focus (first | rfl | (simp; done)))) | (with_reducible apply row_same) | ((with_reducible apply row_else); (focus (first | (simp; done) | (simp; omega) | omega))) | (with_reducible apply row_alloc) | (with_reducible apply row_drew) | (with_reducible apply row_drewN) | ((with_reducible apply row_up); assumption)))), ⟨_, (by (repeat (first | assumption | ((with_reducible apply row_newc); (focus (first | rfl | (simp; done)))) | ((with_reducible apply row_newz); (focus (first | rfl | (simp; done)))) | (with_reducible apply row_same) | ((with_reducible apply row_else); (focus (first | (simp; done) | (simp; omega) | omega))) | (with_reducible apply row_alloc) | (with_reducible apply row_drew) | (with_reducible apply row_drewN) | ((with_reducible apply row_up); assumption))))⟩, ⟨_, (by (repeat (first | assumption | ((with_reducible apply row_newc); (focus (first | rfl | (simp; done)))) | ((with_reducible apply row_newz); (focus (first | rfl | (simp; done)))) | (with_reducible apply row_same) | ((with_reducible apply row_else); (focus (first | (simp; done) | (simp; omega) | omega))) | (with_reducible apply row_alloc) | (with_reducible apply row_drew) | (with_reducible apply row_drewN) | ((with_reducible apply row_up); assumption))))⟩, (by repeat (first | assumption | (with_reducible apply Up.of) | (with_reducible exact Below.refl _ _) | (with_reducible exact Up.refl _) | ((with_reducible apply bl_setRow); (focus (first | exact Nat.le_refl _ | (simp; done) | (simp; omega) | omega))) | (with_reducible apply below_drewN) | (with_reducible apply Below.drew) | ((with_reducible apply bl_alloc); (focus (first | exact Nat.le_refl _ | (simp; done) | (simp; omega) | omega))) | ((with_reducible apply bl_setCell); (focus (first | exact Nat.le_refl _ | (simp; done) | (simp; omega) | omega))) | ((with_reducible apply up_tr); assumption)))⟩ (fun wS hSS hSu => ?_)
  have ⟨hS1, hS2, hS3, hSB⟩ := hSS
  clear hu
  refine wpAnyU_pure (i := 0) (d := (some 10)) (v := ?_) rfl rfl (by kernel_rfl) (fun _ _ _ h => h) hSu.out (Or.inl ⟨by rfl, fun w' _ => yu_value ?_⟩) ?_
  rotate_left
  · (go_simp; (try exact rfl))
  try simp only [Act.put, pu1, pu2, pu3]
  refine wpAnyU_take (i := 1) (d := (some 11)) (v := _) rfl rfl (by kernel_rfl) (fun _ _ _ h => h) hSu.out hSS (Or.inl ⟨by rfl, fun w' hSw => yu_value (run_ld undW infoW _ rfl _ rfl hSw.1)⟩) ?_
  try simp only [Act.put, pu1, pu2, pu3]
  obtain ⟨v3, hS2⟩ := hS2
  obtain ⟨v4, hS3⟩ := hS3
  refine wpAnyU_one (i := 2) rfl (by kernel_rfl) (by rfl) fun w2 hw2 => ?_
  refine wp_st_rowZ infoW rfl _ _ rfl _ rfl rfl (hS2.up hw2) ?_
  refine ⟨fun _ h => ⟨h.1.row_other _ (by omega), h.2.1.st _, h.2.2.1.st _, below_setRow h.2.2.2 (by omega) _⟩, ?_⟩
  refine wpAnyU_one (i := 3) rfl (by kernel_rfl) (by rfl) fun w3 hw3 => ?_
  refine wp_st_rowN infoW rfl _ _ rfl _ rfl rfl ((Row.up (((hS3.up hw2).row_other (cells 16 (fun _ => 0)) (show w.heap.size + 1 + 1 + 1 ≠ w.heap.size + 1 + 1 by omega))) hw3)) ?_
  refine ⟨fun h => by simp at h, ?_⟩
  try simp only [Act.put, pu1, pu2, pu3]
  refine wpAnyU_done (by kernel_rfl) (fun wF huE => ?_) _
  have gA := ((((hS2.up hw2).setRow (fun _ => 0)).up hw3).row_other (cells 16 (limb x)) (show w.heap.size + 1 + 1 ≠ w.heap.size + 1 + 1 + 1 by omega)).up huE
  have gC := (((hS3.up hw2).row_other (cells 16 (fun _ => 0)) (show w.heap.size + 1 + 1 + 1 ≠ w.heap.size + 1 + 1 by omega)).up hw3).setRow (limb x)
  replace gC := gC.up huE
  have gB := below_up (below_setRow (below_up (below_setRow (below_up hSB hw2) (show w.heap.size ≤ w.heap.size + 1 + 1 by omega) (cells 16 (fun _ => 0))) hw3) (show w.heap.size ≤ w.heap.size + 1 + 1 + 1 by omega) (cells 16 (limb x))) huE
  clear hS1 hS2 hS3 hSB hSS hw2 hw3 huE
  go_wp2
  exact bodyPost_ret (resCC rfl undW infoW _ _ _ rfl rfl gA gC) rfl ⟨rfl, gB⟩
set_option maxHeartbeats 1000000 in
theorem divide_one (x y : Nat) (hx : x < bp 16) (hy : y < bp 16) (h : ¬ x < y) (h1 : lenL (limb y) 16 = 1) (w : World) :
    Calls Try.prog 29 #[wideV x, wideV y] w fun e w' => e = .returned (divV x y) ∧ Up w w' := by
  have hO := fun w => order_any x y hx hy w
  have ho := ordZ_ge h
  have hL := fun w => length_any y w
  rw [h1] at hL
  have hy1 : limb y 0 = y := by
    have e := limb_len y hy
    rw [h1, sumL_succ, sumL_zero, bp_zero] at e
    omega
  have hyl := limb_lt y 0
  rw [hy1] at hyl
  have hy0 : 0 < y := by
    have := lenL_top (limb y) 16 (by omega)
    rw [h1] at this
    have e : limb y (1 - 1) = limb y 0 := rfl
    rw [e, hy1] at this
    omega
  have HS := hid (fun w => short_any x y hx hyl hy0 w)
  have HO := hid hO
  have HL := hid hL
  have Hy1 := hid hy1
  unfold divV
  clear hO hL hy1 h h1
  generalize ordZ x y = oz at *
  have hoz : ¬ oz < 0 := by omega
  obtain ⟨q, eq⟩ : ∃ q, x / y = q := ⟨_, rfl⟩
  obtain ⟨r, er⟩ : ∃ r, x % y = r := ⟨_, rfl⟩
  rw [eq, er] at HS ⊢
  clear eq er
  unfold wideV at *
  go_enter Try.func29, Try.ntmps29
  go_wp2_with (first | ((with_reducible apply ld_rowP undW infoW); exact rfl; exact rfl; focus (repeat (first | assumption | ((with_reducible apply row_newc); (focus (first | rfl | (simp; done)))) | ((with_reducible apply row_newz); (focus (first | rfl | (simp; done)))) | (with_reducible apply row_same) | ((with_reducible apply row_else); (focus (first | (simp; done) | (simp; omega) | omega))) | (with_reducible apply row_alloc) | (with_reducible apply row_drew) | (with_reducible apply row_drewN) | ((with_reducible apply row_up); assumption)))) | ((with_reducible apply st_rowP infoW); exact rfl; exact rfl; focus (repeat (first | assumption | ((with_reducible apply row_newc); (focus (first | rfl | (simp; done)))) | ((with_reducible apply row_newz); (focus (first | rfl | (simp; done)))) | (with_reducible apply row_same) | ((with_reducible apply row_else); (focus (first | (simp; done) | (simp; omega) | omega))) | (with_reducible apply row_alloc) | (with_reducible apply row_drew) | (with_reducible apply row_drewN) | ((with_reducible apply row_up); assumption)))) | ((with_reducible apply st_rowZ infoW); exact rfl; exact rfl; focus (repeat (first | assumption | ((with_reducible apply row_newc); (focus (first | rfl | (simp; done)))) | ((with_reducible apply row_newz); (focus (first | rfl | (simp; done)))) | (with_reducible apply row_same) | ((with_reducible apply row_else); (focus (first | (simp; done) | (simp; omega) | omega))) | (with_reducible apply row_alloc) | (with_reducible apply row_drew) | (with_reducible apply row_drewN) | ((with_reducible apply row_up); assumption)))) | (go_at_call 45; refine (HO.out _).mono ?_; rintro e w' ⟨rfl, hu⟩) | (go_at_call 46; refine (HL.out _).mono ?_; rintro e w' ⟨rfl, hu⟩; have hcl := Row.cell (w := w') (b := w.heap.size + 1) (t := 27) (n := 16) (f := limb y) (by (repeat (first | assumption | ((with_reducible apply row_newc); (focus (first | rfl | (simp; done)))) | ((with_reducible apply row_newz); (focus (first | rfl | (simp; done)))) | (with_reducible apply row_same) | ((with_reducible apply row_else); (focus (first | (simp; done) | (simp; omega) | omega))) | (with_reducible apply row_alloc) | (with_reducible apply row_drew) | (with_reducible apply row_drewN) | ((with_reducible apply row_up); assumption)))) 0 (by omega); rw [Hy1.out] at hcl) | (go_at_call 47; refine (HS.out _).mono ?_; rintro e w' ⟨rfl, hu⟩))
  exact bodyPost_ret (resCC rfl undW infoW _ _ _ rfl rfl (by (repeat (first | assumption | ((with_reducible apply row_newc); (focus (first | rfl | (simp; done)))) | ((with_reducible apply row_newz); (focus (first | rfl | (simp; done)))) | (with_reducible apply row_same) | ((with_reducible apply row_else); (focus (first | (simp; done) | (simp; omega) | omega))) | (with_reducible apply row_alloc) | (with_reducible apply row_drew) | (with_reducible apply row_drewN) | ((with_reducible apply row_up); assumption)))) (by (repeat (first | assumption | ((with_reducible apply row_newc); (focus (first | rfl | (simp; done)))) | ((with_reducible apply row_newz); (focus (first | rfl | (simp; done)))) | (with_reducible apply row_same) | ((with_reducible apply row_else); (focus (first | (simp; done) | (simp; omega) | omega))) | (with_reducible apply row_alloc) | (with_reducible apply row_drew) | (with_reducible apply row_drewN) | ((with_reducible apply row_up); assumption))))) rfl ⟨rfl, (by repeat (first | assumption | (with_reducible apply Up.of) | (with_reducible exact Below.refl _ _) | (with_reducible exact Up.refl _) | ((with_reducible apply bl_setRow); (focus (first | exact Nat.le_refl _ | (simp; done) | (simp; omega) | omega))) | (with_reducible apply below_drewN) | (with_reducible apply Below.drew) | ((with_reducible apply bl_alloc); (focus (first | exact Nat.le_refl _ | (simp; done) | (simp; omega) | omega))) | ((with_reducible apply bl_setCell); (focus (first | exact Nat.le_refl _ | (simp; done) | (simp; omega) | omega))) | ((with_reducible apply up_tr); assumption)))⟩
end Go.Proofs.Ytbogbdokllmanaa
/-
  wide.Div: quotient and rest of whole numbers, where the amounts' division is told.
-/
namespace Go.Proofs.Ytbogbdokllmanaa
open Go Go.RowKit
set_option maxRecDepth 100000

/-- Two variables are made, in whichever order. -/
theorem wpAnyU_alloc2 {ops : Array Oper} {Q : Exit → Act → World → Prop} {md : Region.Mode} {S : World → Prop} {req : Nat → Bool} {i j : Nat} {oi oj : Oper} {di dj : Tmp} {fuel : Nat} {listed : Array Bool} {a : Act} {w : World}
    (hi : ops[i]? = some oi) (hj : ops[j]? = some oj) (hdi : oi.dst = some di) (hdj : oj.dst = some dj) (hd : di ≠ dj) (hgi : oi.guard = none) (hgj : oj.guard = none) (hoi : oi.op = .alloc 27) (hoj : oj.op = .alloc 27)
    (hr : Region.ready md ops listed = [i, j]) (hr1 : Region.ready md ops (listed.setIfInBounds i true) = [j]) (hr2 : Region.ready md ops (listed.setIfInBounds j true) = [i]) (hij : i ≠ j) (hSup : ∀ w w', S w → Up w w' → S w')
    (h : ∀ w1 p q, Up w w1 → Row w1 p 27 16 (fun _ => 0) → Row w1 q 27 16 (fun _ => 0) → p ≠ q → w.heap.size ≤ p → w.heap.size ≤ q →
      wpAnyU Try.prog md ops Q S req fuel ((listed.setIfInBounds i true).setIfInBounds j true) ((a.put (some di) (.pointer (some ⟨p, 0, none⟩))).put (some dj) (.pointer (some ⟨q, 0, none⟩))) w1) :
    wpAnyU Try.prog md ops Q S req (fuel + 2) listed a w := by
  have hwi : ∀ a : Act, Region.wanted oi (yielded ops a.tmps) = true := fun a => by simp [Region.wanted, hgi]
  have hwj : ∀ a : Act, Region.wanted oj (yielded ops a.tmps) = true := fun a => by simp [Region.wanted, hgj]
  refine wpAnyU_all hr (by simp) fun w1 hw1 k hk => ?_
  simp only [List.mem_cons, List.not_mem_nil, or_false] at hk
  rcases hk with rfl | rfl
  · unfold wpOp
    simp only [hi, hwi, if_true]
    refine .inl ?_
    unfold Oper.wp
    rw [run_allocW hoi w1]
    refine ⟨fun _ hS => hSup _ _ hS (Up.alloc _ _), ?_⟩
    refine wpAnyU_allocW hj hdj hr1 (hwj _) hoj hSup fun w2 hw2 => ?_
    rw [hdi]
    have h1 := hw1.size
    have h2 := hw2.size
    simp only [World.alloc, Array.size_push] at h2
    exact h _ _ _ ((hw1.trans ((Up.alloc _ _).trans hw2)).trans (Up.alloc _ _)) ((Row.up (row_newc _ 16 _ rfl) hw2).up (Up.alloc _ _)) (row_newc _ 16 _ rfl) (by omega) (by omega) (by omega)
  · unfold wpOp
    simp only [hj, hwj, if_true]
    refine .inl ?_
    unfold Oper.wp
    rw [run_allocW hoj w1]
    refine ⟨fun _ hS => hSup _ _ hS (Up.alloc _ _), ?_⟩
    refine wpAnyU_allocW hi hdi hr2 (hwi _) hoi hSup fun w2 hw2 => ?_
    rw [hdj, Act.put_comm a (x := some dj) (y := some di) _ _ (fun d h1 h2 => hd (by rw [Option.some.inj h1, Option.some.inj h2])), Array.setIfInBounds_comm _ _ (Ne.symm hij)]
    have h1 := hw1.size
    have h2 := hw2.size
    simp only [World.alloc, Array.size_push] at h2
    exact h _ _ _ ((hw1.trans ((Up.alloc _ _).trans hw2)).trans (Up.alloc _ _)) (row_newc _ 16 _ rfl) ((Row.up (row_newc _ 16 _ rfl) hw2).up (Up.alloc _ _)) (by omega) (by omega) (by omega)
theorem pm_tdiv (a b : Int) {sa sb : Bool} (ha : sa = decide (a < 0)) (hb' : sb = decide (b < 0)) : pm (!(sa == sb)) (a.natAbs / b.natAbs) = a.tdiv b := by
  subst ha; subst hb'
  by_cases h1 : a < 0
  · obtain ⟨n, e⟩ : ∃ n : Nat, a = -(n : Int) := ⟨a.natAbs, by omega⟩
    by_cases h2 : b < 0
    · obtain ⟨m, f⟩ : ∃ m : Nat, b = -(m : Int) := ⟨b.natAbs, by omega⟩
      rw [decide_eq_true h1, decide_eq_true h2, e, f, Int.natAbs_neg, Int.natAbs_neg, Int.neg_tdiv, Int.tdiv_neg, Int.neg_neg, ← Int.ofNat_tdiv]
      rfl
    · obtain ⟨m, f⟩ : ∃ m : Nat, b = (m : Int) := ⟨b.natAbs, by omega⟩
      rw [decide_eq_true h1, decide_eq_false h2, e, f, Int.natAbs_neg, Int.neg_tdiv, ← Int.ofNat_tdiv]
      rfl
  · obtain ⟨n, e⟩ : ∃ n : Nat, a = (n : Int) := ⟨a.natAbs, by omega⟩
    by_cases h2 : b < 0
    · obtain ⟨m, f⟩ : ∃ m : Nat, b = -(m : Int) := ⟨b.natAbs, by omega⟩
      rw [decide_eq_false h1, decide_eq_true h2, e, f, Int.natAbs_neg, Int.tdiv_neg, ← Int.ofNat_tdiv]
      rfl
    · obtain ⟨m, f⟩ : ∃ m : Nat, b = (m : Int) := ⟨b.natAbs, by omega⟩
      rw [decide_eq_false h1, decide_eq_false h2, e, f, ← Int.ofNat_tdiv]
      rfl
theorem pm_tmod (a b : Int) {sa : Bool} (ha : sa = decide (a < 0)) : pm sa (a.natAbs % b.natAbs) = a.tmod b := by
  subst ha
  have hb' : a.tmod b = a.tmod (b.natAbs : Int) := by
    by_cases h2 : b < 0
    · obtain ⟨m, f⟩ : ∃ m : Nat, b = -(m : Int) := ⟨b.natAbs, by omega⟩
      rw [f, Int.tmod_neg, Int.natAbs_neg]; rfl
    · obtain ⟨m, f⟩ : ∃ m : Nat, b = (m : Int) := ⟨b.natAbs, by omega⟩
      rw [f]; rfl
  rw [hb']
  by_cases h1 : a < 0
  · obtain ⟨n, e⟩ : ∃ n : Nat, a = -(n : Int) := ⟨a.natAbs, by omega⟩
    rw [decide_eq_true h1, e, Int.natAbs_neg, Int.neg_tmod, ← Int.ofNat_tmod]
    rfl
  · obtain ⟨n, e⟩ : ∃ n : Nat, a = (n : Int) := ⟨a.natAbs, by omega⟩
    rw [decide_eq_false h1, e, ← Int.ofNat_tmod]
    rfl
/-- What Div tells of two numbers. -/
def divZV (a b : Int) : Value :=
  if b = 0 ∨ ¬ InR (a.tdiv b) then .tuple #[.agg (cells 16 (fun _ => 0)), .agg (cells 16 (fun _ => 0)), .bool false]
  else .tuple #[wideV (enc (a.tdiv b)), wideV (enc (a.tmod b)), .bool true]
theorem tmod_in {a b : Int} (ha : InR a) : InR (a.tmod b) := by
  have h := pm_tmod a b (sa := decide (a < 0)) rfl
  have h1 := Nat.mod_le a.natAbs b.natAbs
  have h2 := ha.out
  rw [← h]
  generalize a.natAbs % b.natAbs = r at *
  refine InR.mk' ?_
  unfold pm
  split
  · rename_i hs
    have hs : a < 0 := by simpa using hs
    omega
  · rename_i hs
    have hs : ¬ a < 0 := by simpa using hs
    omega
set_option maxHeartbeats 2000000 in
theorem div_z {a b : Int} (ha : InR a) (hb' : InR b) (hDV : b ≠ 0 → ∀ w, Calls Try.prog 29 #[wideV a.natAbs, wideV b.natAbs] w fun e w' => e = .returned (divV a.natAbs b.natAbs) ∧ Up w w') (w : World) :
    Calls Try.prog 7 #[wideV (enc a), wideV (enc b)] w fun e w' => e = .returned (divZV a b) ∧ Up w w' := by
  have hltb := enc_lt b
  by_cases h0 : b = 0
  · have e : divZV a b = .tuple #[.agg (cells 16 (fun _ => 0)), .agg (cells 16 (fun _ => 0)), .bool false] := by unfold divZV; rw [if_pos (.inl h0)]
    have hz : IsB (decide (enc b = 0)) true := decide_eq_true ((enc_eq_zero hb').2 h0)
    rw [e]
    clear e h0 hDV
    unfold wideV at *
    go_enter Try.func7, Try.ntmps7
    go_wp2_with (first | ((with_reducible apply ld_rowP undW infoW); exact rfl; exact rfl; focus (repeat (first | assumption | ((with_reducible apply row_newc); (focus (first | rfl | (simp; done)))) | ((with_reducible apply row_newz); (focus (first | rfl | (simp; done)))) | (with_reducible apply row_same) | ((with_reducible apply row_else); (focus (first | (simp; done) | (simp; omega) | omega))) | (with_reducible apply row_alloc) | (with_reducible apply row_drew) | (with_reducible apply row_drewN) | ((with_reducible apply row_up); assumption)))) | ((with_reducible apply st_rowP infoW); exact rfl; exact rfl; focus (repeat (first | assumption | ((with_reducible apply row_newc); (focus (first | rfl | (simp; done)))) | ((with_reducible apply row_newz); (focus (first | rfl | (simp; done)))) | (with_reducible apply row_same) | ((with_reducible apply row_else); (focus (first | (simp; done) | (simp; omega) | omega))) | (with_reducible apply row_alloc) | (with_reducible apply row_drew) | (with_reducible apply row_drewN) | ((with_reducible apply row_up); assumption)))) | ((with_reducible apply st_rowZ infoW); exact rfl; exact rfl; focus (repeat (first | assumption | ((with_reducible apply row_newc); (focus (first | rfl | (simp; done)))) | ((with_reducible apply row_newz); (focus (first | rfl | (simp; done)))) | (with_reducible apply row_same) | ((with_reducible apply row_else); (focus (first | (simp; done) | (simp; omega) | omega))) | (with_reducible apply row_alloc) | (with_reducible apply row_drew) | (with_reducible apply row_drewN) | ((with_reducible apply row_up); assumption)))) | ((with_reducible apply eqP); exact rfl; exact rfl; exact rfl; assumption; assumption; assumption) | ((with_reducible apply eqZP); exact rfl; exact rfl; exact rfl; assumption; assumption) | ((with_reducible apply neP); exact rfl; exact rfl; exact rfl; assumption; assumption; assumption) | ((with_reducible apply neZP); exact rfl; exact rfl; exact rfl; assumption; assumption))
    exact bodyPost_ret (resCCT rfl undW infoW _ _ _ rfl rfl (by (repeat (first | assumption | ((with_reducible apply row_newc); (focus (first | rfl | (simp; done)))) | ((with_reducible apply row_newz); (focus (first | rfl | (simp; done)))) | (with_reducible apply row_same) | ((with_reducible apply row_else); (focus (first | (simp; done) | (simp; omega) | omega))) | (with_reducible apply row_alloc) | (with_reducible apply row_drew) | (with_reducible apply row_drewN) | ((with_reducible apply row_up); assumption)))) (by (repeat (first | assumption | ((with_reducible apply row_newc); (focus (first | rfl | (simp; done)))) | ((with_reducible apply row_newz); (focus (first | rfl | (simp; done)))) | (with_reducible apply row_same) | ((with_reducible apply row_else); (focus (first | (simp; done) | (simp; omega) | omega))) | (with_reducible apply row_alloc) | (with_reducible apply row_drew) | (with_reducible apply row_drewN) | ((with_reducible apply row_up); assumption))))) rfl ⟨rfl, (by repeat (first | assumption | (with_reducible apply Up.of) | (with_reducible exact Below.refl _ _) | (with_reducible exact Up.refl _) | ((with_reducible apply bl_setRow); (focus (first | exact Nat.le_refl _ | (simp; done) | (simp; omega) | omega))) | (with_reducible apply below_drewN) | (with_reducible apply Below.drew) | ((with_reducible apply bl_alloc); (focus (first | exact Nat.le_refl _ | (simp; done) | (simp; omega) | omega))) | ((with_reducible apply bl_setCell); (focus (first | exact Nat.le_refl _ | (simp; done) | (simp; omega) | omega))) | ((with_reducible apply up_tr); assumption)))⟩
  · have hz : IsB (decide (enc b = 0)) false := decide_eq_false fun h => h0 ((enc_eq_zero hb').1 h)
    have hD := hDV h0
    clear hDV
    have HA := hid (fun w => amount_z ha w)
    have HB := hid (fun w => amount_z hb' w)
    have hMA := fun w => minus_z ha w
    have hMB := fun w => minus_z hb' w
    obtain ⟨sa, ea⟩ : ∃ sa, sa = decide (a < 0) := ⟨_, rfl⟩
    obtain ⟨sb, eb⟩ : ∃ sb, sb = decide (b < 0) := ⟨_, rfl⟩
    rw [← ea] at hMA
    rw [← eb] at hMB
    have HMA := hid hMA
    have HMB := hid hMB
    have hqlt : a.natAbs / b.natAbs < bp 16 := Nat.lt_of_le_of_lt (Nat.div_le_self _ _) (enc_natAbs ha).2
    have hrlt : a.natAbs % b.natAbs < bp 16 := Nat.lt_of_le_of_lt (Nat.mod_le _ _) (enc_natAbs ha).2
    have hSQ := fun w => signed_any hqlt (!(sa == sb)) w
    have hSR := fun w => signed_any hrlt sa w
    rw [pm_tdiv a b ea eb] at hSQ
    rw [pm_tmod a b ea, opt_yes (tmod_in ha)] at hSR
    have HSR := hid hSR
    unfold divV at hD
    have HD := hid hD
    clear hMA hMB ea eb hSR hD
    generalize a.natAbs / b.natAbs = q at *
    generalize a.natAbs % b.natAbs = r at *
    generalize a.natAbs = m at *
    generalize b.natAbs = n at *
    obtain ⟨er, eer⟩ : ∃ er, enc (a.tmod b) = er := ⟨_, rfl⟩
    rw [eer] at HSR
    have hER := hid eer
    clear eer
    by_cases hin : InR (a.tdiv b)
    · rw [opt_yes hin] at hSQ
      have HSQ := hid hSQ
      have e : divZV a b = .tuple #[wideV (enc (a.tdiv b)), wideV er, .bool true] := by
        unfold divZV
        rw [if_neg (fun h => h.elim h0 (fun h => h hin)), hER.out]
      rw [e]
      clear e hSQ hin h0
      generalize enc (a.tdiv b) = eq at *
      unfold wideV at *
      go_enter Try.func7, Try.ntmps7
      go_wp2_with (first | ((with_reducible apply ld_rowP undW infoW); exact rfl; exact rfl; focus (repeat (first | assumption | ((with_reducible apply row_newc); (focus (first | rfl | (simp; done)))) | ((with_reducible apply row_newz); (focus (first | rfl | (simp; done)))) | (with_reducible apply row_same) | ((with_reducible apply row_else); (focus (first | (simp; done) | (simp; omega) | omega))) | (with_reducible apply row_alloc) | (with_reducible apply row_drew) | (with_reducible apply row_drewN) | ((with_reducible apply row_up); assumption)))) | ((with_reducible apply st_rowP infoW); exact rfl; exact rfl; focus (repeat (first | assumption | ((with_reducible apply row_newc); (focus (first | rfl | (simp; done)))) | ((with_reducible apply row_newz); (focus (first | rfl | (simp; done)))) | (with_reducible apply row_same) | ((with_reducible apply row_else); (focus (first | (simp; done) | (simp; omega) | omega))) | (with_reducible apply row_alloc) | (with_reducible apply row_drew) | (with_reducible apply row_drewN) | ((with_reducible apply row_up); assumption)))) | ((with_reducible apply st_rowZ infoW); exact rfl; exact rfl; focus (repeat (first | assumption | ((with_reducible apply row_newc); (focus (first | rfl | (simp; done)))) | ((with_reducible apply row_newz); (focus (first | rfl | (simp; done)))) | (with_reducible apply row_same) | ((with_reducible apply row_else); (focus (first | (simp; done) | (simp; omega) | omega))) | (with_reducible apply row_alloc) | (with_reducible apply row_drew) | (with_reducible apply row_drewN) | ((with_reducible apply row_up); assumption)))) | ((with_reducible apply eqP); exact rfl; exact rfl; exact rfl; assumption; assumption; assumption) | ((with_reducible apply eqZP); exact rfl; exact rfl; exact rfl; assumption; assumption) | ((with_reducible apply neP); exact rfl; exact rfl; exact rfl; assumption; assumption; assumption) | ((with_reducible apply neZP); exact rfl; exact rfl; exact rfl; assumption; assumption))
      refine wp_region_upH (S := (fun wq => Row wq (w.heap.size) 27 16 (limb (enc a)) ∧ Row wq (w.heap.size + 1) 27 16 (limb (enc b)) ∧ Row wq (w.heap.size + 1 + 1) 27 16 (fun _ => 0) ∧ Row wq (w.heap.size + 1 + 1 + 1) 27 16 (fun _ => 0) ∧ Below w.heap.size w wq)) (req := (fun j => j != 10 && j != 11)) (by kernel_rfl) (fun _ _ h hu => ⟨(h.1).up hu, (h.2.1).up hu, (h.2.2.1).up hu, (h.2.2.2.1).up hu, below_up (h.2.2.2.2) hu⟩) ⟨(by (repeat (first | assumption | ((with_reducible apply row_newc); (focus (first | rfl | (simp; done)))) | ((with_reducible apply row_newz); (focus (first | rfl | (simp; done)))) | (with_reducible apply row_same) | ((with_reducible apply row_else); (focus (first | (simp; done) | (simp; omega) | omega))) | (with_reducible apply row_alloc) | (with_reducible apply row_drew) | (with_reducible apply row_drewN) | ((with_reducible apply row_up); assumption)))), (by (repeat (first | assumption | ((with_reducible apply row_newc); (focus (first | rfl | (simp; done)))) | ((with_reducible apply row_newz); (focus (first | rfl | (simp; done)))) | (with_reducible apply row_same) | ((with_reducible apply row_else); (focus (first | (simp; done) | (simp; omega) | omega))) | (with_reducible apply row_alloc) | (with_reducible apply row_drew) | (with_reducible apply row_drewN) | ((with_reducible apply row_up); assumption)))), (by (repeat (first | assumption | ((with_reducible apply row_newc); (focus (first | rfl | (simp; done)))) | ((with_reducible apply row_newz); (focus (first | rfl | (simp; done)))) | (with_reducible apply row_same) | ((with_reducible apply row_else); (focus (first | (simp; done) | (simp; omega) | omega))) | (with_reducible apply row_alloc) | (with_reducible apply row_drew) | (with_reducible apply row_drewN) | ((with_reducible apply row_up); assumption)))), (by (repeat (first | assumption | ((with_reducible apply row_newc); (focus (first | rfl | (simp; done)))) | ((with_reducible apply row_newz); (focus (first | rfl | (simp; done)))) | (with_reducible apply row_same) | ((with_reducible apply row_else); (focus (first | (simp; done) | (simp; omega) | omega))) | (with_reducible apply row_alloc) | (with_reducible apply row_drew) | (with_reducible apply row_drewN) | ((with_reducible apply row_up); assumption)))), (by repeat (first | assumption | (with_reducible apply Up.of) | (with_reducible exact Below.refl _ _) | (with_reducible exact Up.refl _) | ((with_reducible apply bl_setRow); (focus (first | exact Nat.le_refl _ | (simp; done) | (simp; omega) | omega))) | (with_reducible apply below_drewN) | (with_reducible apply Below.drew) | ((with_reducible apply bl_alloc); (focus (first | exact Nat.le_refl _ | (simp; done) | (simp; omega) | omega))) | ((with_reducible apply bl_setCell); (focus (first | exact Nat.le_refl _ | (simp; done) | (simp; omega) | omega))) | ((with_reducible apply up_tr); assumption)))⟩ (fun wS hSS hSu => ?_)
      have ⟨hS1, hS2, hS3, hS4, hSB⟩ := hSS
      refine wpAnyU_take (i := 0) (d := (some 19)) (v := _) rfl rfl (by kernel_rfl) (fun _ _ _ h => h) hSu.out hSS (Or.inl ⟨by rfl, fun w' hSw => yu_value (run_ld undW infoW _ rfl _ rfl hSw.1)⟩) ?_
      try simp only [Act.put, pu1, pu2, pu3]
      refine wpAnyU_take (i := 1) (d := (some 20)) (v := _) rfl rfl (by kernel_rfl) (fun _ _ _ h => h) hSu.out hSS (Or.inl ⟨by rfl, fun w' hSw => yu_call ?_ (HA.out _)⟩) ?_
      · go_simp
      try simp only [Act.put, pu1, pu2, pu3]
      refine wpAnyU_take (i := 2) (d := (some 21)) (v := _) rfl rfl (by kernel_rfl) (fun _ _ _ h => h) hSu.out hSS (Or.inl ⟨by rfl, fun w' hSw => yu_value (run_ld undW infoW _ rfl _ rfl hSw.2.1)⟩) ?_
      try simp only [Act.put, pu1, pu2, pu3]
      refine wpAnyU_take (i := 3) (d := (some 22)) (v := _) rfl rfl (by kernel_rfl) (fun _ _ _ h => h) hSu.out hSS (Or.inl ⟨by rfl, fun w' hSw => yu_call ?_ (HB.out _)⟩) ?_
      · go_simp
      try simp only [Act.put, pu1, pu2, pu3]
      refine wpAnyU_take (i := 4) (d := (some 23)) (v := _) rfl rfl (by kernel_rfl) (fun _ _ _ h => h) hSu.out hSS (Or.inl ⟨by rfl, fun w' hSw => yu_call ?_ (HD.out _)⟩) ?_
      · go_simp
      try simp only [Act.put, pu1, pu2, pu3]
      refine wpAnyU_pure (i := 5) (d := (some 18)) (v := ?_) rfl rfl (by kernel_rfl) (fun _ _ _ h => h) hSu.out (Or.inl ⟨by rfl, fun w' _ => yu_value ?_⟩) ?_
      rotate_left
      · (go_simp; (try exact rfl))
      try simp only [Act.put, pu1, pu2, pu3]
      refine wpAnyU_pure (i := 6) (d := (some 24)) (v := ?_) rfl rfl (by kernel_rfl) (fun _ _ _ h => h) hSu.out (Or.inl ⟨by rfl, fun w' _ => yu_value ?_⟩) ?_
      rotate_left
      · (go_simp; (try exact rfl))
      try simp only [Act.put, pu1, pu2, pu3]
      refine wpAnyU_pure (i := 7) (d := (some 25)) (v := ?_) rfl rfl (by kernel_rfl) (fun _ _ _ h => h) hSu.out (Or.inl ⟨by rfl, fun w' _ => yu_value ?_⟩) ?_
      rotate_left
      · (go_simp; (try exact rfl))
      try simp only [Act.put, pu1, pu2, pu3]
      refine wpAnyU_alloc2 (i := 8) (j := 9) (di := 7) (dj := 8) rfl rfl rfl rfl (by decide) rfl rfl rfl rfl (by kernel_rfl) (by kernel_rfl) (by kernel_rfl) (by decide) (fun _ _ h hu => ⟨(h.1).up hu, (h.2.1).up hu, (h.2.2.1).up hu, (h.2.2.2.1).up hu, below_up (h.2.2.2.2) hu⟩) fun w1 p q' hw1 hp hq hpq hpl hql => ?_
      try simp only [Act.put, pu1, pu2, pu3]
      have hlt := hS4.lt
      refine wpAnyU_one (i := 10) rfl (by kernel_rfl) (by rfl) fun w2 hw2 => ?_
      refine wp_st_rowN infoW rfl _ _ rfl _ rfl rfl ((hp.up hw2)) ?_
      refine ⟨fun h => by simp at h, ?_⟩
      try simp only [Act.put, pu1, pu2, pu3]
      refine wpAnyU_one (i := 11) rfl (by kernel_rfl) (by rfl) fun w3 hw3 => ?_
      refine wp_st_rowN infoW rfl _ _ rfl _ rfl rfl ((((hq.up hw2).row_other (cells 16 (limb q)) (show q' ≠ p by omega)).up hw3)) ?_
      refine ⟨fun h => by simp at h, ?_⟩
      try simp only [Act.put, pu1, pu2, pu3]
      refine wpAnyU_done (by kernel_rfl) (fun wF huE => ?_) _
      have g1 := ((((((hS1).up hw1).up hw2).row_other (cells 16 (limb q)) (show w.heap.size ≠ p by omega)).up hw3).row_other (cells 16 (limb r)) (show w.heap.size ≠ q' by omega)).up huE
      have g2 := ((((((hS2).up hw1).up hw2).row_other (cells 16 (limb q)) (show w.heap.size + 1 ≠ p by omega)).up hw3).row_other (cells 16 (limb r)) (show w.heap.size + 1 ≠ q' by omega)).up huE
      have g3 := ((((((hS3).up hw1).up hw2).row_other (cells 16 (limb q)) (show w.heap.size + 1 + 1 ≠ p by omega)).up hw3).row_other (cells 16 (limb r)) (show w.heap.size + 1 + 1 ≠ q' by omega)).up huE
      have g4 := ((((((hS4).up hw1).up hw2).row_other (cells 16 (limb q)) (show w.heap.size + 1 + 1 + 1 ≠ p by omega)).up hw3).row_other (cells 16 (limb r)) (show w.heap.size + 1 + 1 + 1 ≠ q' by omega)).up huE
      have gp := (((((hp).up hw2).setRow (limb q)).up hw3).row_other (cells 16 (limb r)) (show p ≠ q' by omega)).up huE
      have gq := (((((hq).up hw2).row_other (cells 16 (limb q)) (show q' ≠ p by omega)).up hw3).setRow (limb r)).up huE
      have gB := below_up (below_setRow (below_up (below_setRow (below_up (below_up (hSB) hw1) hw2) (show w.heap.size ≤ p by omega) (cells 16 (limb q))) hw3) (show w.heap.size ≤ q' by omega) (cells 16 (limb r))) huE
      clear hS1 hS2 hS3 hS4 hSB hSS hw1 hw2 hw3 huE hp hq
      go_wp2
      refine wp_region_upH (S := (fun wq => Row wq (w.heap.size) 27 16 (limb (enc a)) ∧ Row wq (w.heap.size + 1) 27 16 (limb (enc b)) ∧ Row wq (w.heap.size + 1 + 1) 27 16 (fun _ => 0) ∧ Row wq (w.heap.size + 1 + 1 + 1) 27 16 (fun _ => 0) ∧ Row wq p 27 16 (limb q) ∧ Row wq q' 27 16 (limb r) ∧ Below w.heap.size w wq)) (req := (fun j => j != 11)) (by kernel_rfl) (fun _ _ h hu => ⟨(h.1).up hu, (h.2.1).up hu, (h.2.2.1).up hu, (h.2.2.2.1).up hu, (h.2.2.2.2.1).up hu, (h.2.2.2.2.2.1).up hu, below_up (h.2.2.2.2.2.2) hu⟩) ⟨(by (repeat (first | assumption | ((with_reducible apply row_newc); (focus (first | rfl | (simp; done)))) | ((with_reducible apply row_newz); (focus (first | rfl | (simp; done)))) | (with_reducible apply row_same) | ((with_reducible apply row_else); (focus (first | (simp; done) | (simp; omega) | omega))) | (with_reducible apply row_alloc) | (with_reducible apply row_drew) | (with_reducible apply row_drewN) | ((with_reducible apply row_up); assumption)))), (by (repeat (first | assumption | ((with_reducible apply row_newc); (focus (first | rfl | (simp; done)))) | ((with_reducible apply row_newz); (focus (first | rfl | (simp; done)))) | (with_reducible apply row_same) | ((with_reducible apply row_else); (focus (first | (simp; done) | (simp; omega) | omega))) | (with_reducible apply row_alloc) | (with_reducible apply row_drew) | (with_reducible apply row_drewN) | ((with_reducible apply row_up); assumption)))), (by (repeat (first | assumption | ((with_reducible apply row_newc); (focus (first | rfl | (simp; done)))) | ((with_reducible apply row_newz); (focus (first | rfl | (simp; done)))) | (with_reducible apply row_same) | ((with_reducible apply row_else); (focus (first | (simp; done) | (simp; omega) | omega))) | (with_reducible apply row_alloc) | (with_reducible apply row_drew) | (with_reducible apply row_drewN) | ((with_reducible apply row_up); assumption)))), (by (repeat (first | assumption | ((with_reducible apply row_newc); (focus (first | rfl | (simp; done)))) | ((with_reducible apply row_newz); (focus (first | rfl | (simp; done)))) | (with_reducible apply row_same) | ((with_reducible apply row_else); (focus (first | (simp; done) | (simp; omega) | omega))) | (with_reducible apply row_alloc) | (with_reducible apply row_drew) | (with_reducible apply row_drewN) | ((with_reducible apply row_up); assumption)))), (by (repeat (first | assumption | ((with_reducible apply row_newc); (focus (first | rfl | (simp; done)))) | ((with_reducible apply row_newz); (focus (first | rfl | (simp; done)))) | (with_reducible apply row_same) | ((with_reducible apply row_else); (focus (first | (simp; done) | (simp; omega) | omega))) | (with_reducible apply row_alloc) | (with_reducible apply row_drew) | (with_reducible apply row_drewN) | ((with_reducible apply row_up); assumption)))), (by (repeat (first | assumption | ((with_reducible apply row_newc); (focus (first | rfl | (simp; done)))) | ((with_reducible apply row_newz); (focus (first | rfl | (simp; done)))) | (with_reducible apply row_same) | ((with_reducible apply row_else); (focus (first | (simp; done) | (simp; omega) | omega))) | (with_reducible apply row_alloc) | (with_reducible apply row_drew) | (with_reducible apply row_drewN) | ((with_reducible apply row_up); assumption)))), (by repeat (first | assumption | (with_reducible apply Up.of) | (with_reducible exact Below.refl _ _) | (with_reducible exact Up.refl _) | ((with_reducible apply bl_setRow); (focus (first | exact Nat.le_refl _ | (simp; done) | (simp; omega) | omega))) | (with_reducible apply below_drewN) | (with_reducible apply Below.drew) | ((with_reducible apply bl_alloc); (focus (first | exact Nat.le_refl _ | (simp; done) | (simp; omega) | omega))) | ((with_reducible apply bl_setCell); (focus (first | exact Nat.le_refl _ | (simp; done) | (simp; omega) | omega))) | ((with_reducible apply up_tr); assumption)))⟩ (fun wS hSS hSu => ?_)
      have ⟨hS1, hS2, hS3, hS4, hS5, hS6, hSB⟩ := hSS
      clear g1 g2 g3 g4 gp gq gB
      refine wpAnyU_take (i := 0) (d := (some 27)) (v := _) rfl rfl (by kernel_rfl) (fun _ _ _ h => h) hSu.out hSS (Or.inl ⟨by rfl, fun w' hSw => yu_value (run_ld undW infoW _ rfl _ rfl hSw.2.2.2.2.1)⟩) ?_
      try simp only [Act.put, pu1, pu2, pu3]
      refine wpAnyU_take (i := 1) (d := (some 28)) (v := _) rfl rfl (by kernel_rfl) (fun _ _ _ h => h) hSu.out hSS (Or.inl ⟨by rfl, fun w' hSw => yu_value (run_ld undW infoW _ rfl _ rfl hSw.1)⟩) ?_
      try simp only [Act.put, pu1, pu2, pu3]
      refine wpAnyU_take (i := 2) (d := (some 29)) (v := _) rfl rfl (by kernel_rfl) (fun _ _ _ h => h) hSu.out hSS (Or.inl ⟨by rfl, fun w' hSw => yu_call ?_ (HMA.out _)⟩) ?_
      · go_simp
      try simp only [Act.put, pu1, pu2, pu3]
      refine wpAnyU_take (i := 3) (d := (some 30)) (v := _) rfl rfl (by kernel_rfl) (fun _ _ _ h => h) hSu.out hSS (Or.inl ⟨by rfl, fun w' hSw => yu_value (run_ld undW infoW _ rfl _ rfl hSw.2.1)⟩) ?_
      try simp only [Act.put, pu1, pu2, pu3]
      refine wpAnyU_take (i := 4) (d := (some 31)) (v := _) rfl rfl (by kernel_rfl) (fun _ _ _ h => h) hSu.out hSS (Or.inl ⟨by rfl, fun w' hSw => yu_call ?_ (HMB.out _)⟩) ?_
      · go_simp
      try simp only [Act.put, pu1, pu2, pu3]
      refine wpAnyU_pure (i := 5) (d := (some 32)) (v := ?_) rfl rfl (by kernel_rfl) (fun _ _ _ h => h) hSu.out (Or.inl ⟨by rfl, fun w' _ => yu_value ?_⟩) ?_
      rotate_left
      · (go_simp; (try exact rfl))
      try simp only [Act.put, pu1, pu2, pu3]
      refine wpAnyU_take (i := 6) (d := (some 33)) (v := _) rfl rfl (by kernel_rfl) (fun _ _ _ h => h) hSu.out hSS (Or.inl ⟨by rfl, fun w' hSw => yu_call ?_ (HSQ.out _)⟩) ?_
      · go_simp
      try simp only [Act.put, pu1, pu2, pu3]
      refine wpAnyU_pure (i := 7) (d := (some 26)) (v := ?_) rfl rfl (by kernel_rfl) (fun _ _ _ h => h) hSu.out (Or.inl ⟨by rfl, fun w' _ => yu_value ?_⟩) ?_
      rotate_left
      · (go_simp; (try exact rfl))
      try simp only [Act.put, pu1, pu2, pu3]
      refine wpAnyU_pure (i := 8) (d := (some 34)) (v := ?_) rfl rfl (by kernel_rfl) (fun _ _ _ h => h) hSu.out (Or.inl ⟨by rfl, fun w' _ => yu_value ?_⟩) ?_
      rotate_left
      · (go_simp; (try exact rfl))
      try simp only [Act.put, pu1, pu2, pu3]
      refine wpAnyU_pure (i := 9) (d := (some 35)) (v := ?_) rfl rfl (by kernel_rfl) (fun _ _ _ h => h) hSu.out (Or.inl ⟨by rfl, fun w' _ => yu_value ?_⟩) ?_
      rotate_left
      · (go_simp; (try exact rfl))
      try simp only [Act.put, pu1, pu2, pu3]
      have l4 := hS4.lt
      have l5 := hS5.lt
      have l6 := hS6.lt
      refine wpAnyU_allocW (i := 10) (d := (some 9)) rfl rfl (by kernel_rfl) (by rfl) rfl hSu.out fun w4 hw4 => ?_
      try simp only [Act.put, pu1, pu2, pu3]
      refine wpAnyU_one (i := 11) rfl (by kernel_rfl) (by rfl) fun w5 hw5 => ?_
      refine wp_st_rowN infoW rfl _ _ rfl _ rfl rfl ((Row.up (row_newc _ 16 _ rfl) hw5)) ?_
      refine ⟨fun h => by simp at h, ?_⟩
      try simp only [Act.put, pu1, pu2, pu3]
      refine wpAnyU_pure (i := 12) (d := (some 10)) (v := ?_) rfl rfl (by kernel_rfl) (fun _ _ _ h => h) hSu.out (Or.inl ⟨by rfl, fun w' _ => yu_value ?_⟩) ?_
      rotate_left
      · (go_simp; (try exact rfl))
      try simp only [Act.put, pu1, pu2, pu3]
      refine wpAnyU_done (by kernel_rfl) (fun wF huE => ?_) _
      have l7 := hw4.size
      have hnew : Row (w4.alloc (.cells (cells 16 (fun _ => 0)) 27)) w4.heap.size 27 16 (fun _ => 0) := row_newc _ 16 _ rfl
      have g1 := (((((hS1).up hw4).up (Up.alloc _ _)).up hw5).row_other (cells 16 (limb eq)) (show w.heap.size ≠ w4.heap.size by omega)).up huE
      have g2 := (((((hS2).up hw4).up (Up.alloc _ _)).up hw5).row_other (cells 16 (limb eq)) (show w.heap.size + 1 ≠ w4.heap.size by omega)).up huE
      have g3 := (((((hS3).up hw4).up (Up.alloc _ _)).up hw5).row_other (cells 16 (limb eq)) (show w.heap.size + 1 + 1 ≠ w4.heap.size by omega)).up huE
      have g4 := (((((hS4).up hw4).up (Up.alloc _ _)).up hw5).row_other (cells 16 (limb eq)) (show w.heap.size + 1 + 1 + 1 ≠ w4.heap.size by omega)).up huE
      have gq := (((((hS6).up hw4).up (Up.alloc _ _)).up hw5).row_other (cells 16 (limb eq)) (show q' ≠ w4.heap.size by omega)).up huE
      have gp := (((hnew).up hw5).setRow (limb eq)).up huE
      have gB := below_up (below_setRow (below_up (below_up (below_up (hSB) hw4) (Up.alloc _ _)) hw5) (show w.heap.size ≤ w4.heap.size by omega) (cells 16 (limb eq))) huE
      clear hS1 hS2 hS3 hS4 hS5 hS6 hSB hSS hw4 hw5 huE hnew
      go_wp2
      refine wp_region_upH (S := (fun wq => Row wq (w.heap.size) 27 16 (limb (enc a)) ∧ Row wq (w.heap.size + 1 + 1) 27 16 (fun _ => 0) ∧ Row wq (w.heap.size + 1 + 1 + 1) 27 16 (fun _ => 0) ∧ Row wq w4.heap.size 27 16 (limb eq) ∧ Row wq q' 27 16 (limb r) ∧ Below w.heap.size w wq)) (req := (fun j => j != 8)) (by kernel_rfl) (fun _ _ h hu => ⟨(h.1).up hu, (h.2.1).up hu, (h.2.2.1).up hu, (h.2.2.2.1).up hu, (h.2.2.2.2.1).up hu, below_up (h.2.2.2.2.2) hu⟩) ⟨(by (repeat (first | assumption | ((with_reducible apply row_newc); (focus (first | rfl | (simp; done)))) | ((with_reducible apply row_newz); (focus (first | rfl | (simp; done)))) | (with_reducible apply row_same) | ((with_reducible apply row_else); (focus (first | (simp; done) | (simp; omega) | omega))) | (with_reducible apply row_alloc) | (with_reducible apply row_drew) | (with_reducible apply row_drewN) | ((with_reducible apply row_up); assumption)))), (by (repeat (first | assumption | ((with_reducible apply row_newc); (focus (first | rfl | (simp; done)))) | ((with_reducible apply row_newz); (focus (first | rfl | (simp; done)))) | (with_reducible apply row_same) | ((with_reducible apply row_else); (focus (first | (simp; done) | (simp; omega) | omega))) | (with_reducible apply row_alloc) | (with_reducible apply row_drew) | (with_reducible apply row_drewN) | ((with_reducible apply row_up); assumption)))), (by (repeat (first | assumption | ((with_reducible apply row_newc); (focus (first | rfl | (simp; done)))) | ((with_reducible apply row_newz); (focus (first | rfl | (simp; done)))) | (with_reducible apply row_same) | ((with_reducible apply row_else); (focus (first | (simp; done) | (simp; omega) | omega))) | (with_reducible apply row_alloc) | (with_reducible apply row_drew) | (with_reducible apply row_drewN) | ((with_reducible apply row_up); assumption)))), (by (repeat (first | assumption | ((with_reducible apply row_newc); (focus (first | rfl | (simp; done)))) | ((with_reducible apply row_newz); (focus (first | rfl | (simp; done)))) | (with_reducible apply row_same) | ((with_reducible apply row_else); (focus (first | (simp; done) | (simp; omega) | omega))) | (with_reducible apply row_alloc) | (with_reducible apply row_drew) | (with_reducible apply row_drewN) | ((with_reducible apply row_up); assumption)))), (by (repeat (first | assumption | ((with_reducible apply row_newc); (focus (first | rfl | (simp; done)))) | ((with_reducible apply row_newz); (focus (first | rfl | (simp; done)))) | (with_reducible apply row_same) | ((with_reducible apply row_else); (focus (first | (simp; done) | (simp; omega) | omega))) | (with_reducible apply row_alloc) | (with_reducible apply row_drew) | (with_reducible apply row_drewN) | ((with_reducible apply row_up); assumption)))), (by repeat (first | assumption | (with_reducible apply Up.of) | (with_reducible exact Below.refl _ _) | (with_reducible exact Up.refl _) | ((with_reducible apply bl_setRow); (focus (first | exact Nat.le_refl _ | (simp; done) | (simp; omega) | omega))) | (with_reducible apply below_drewN) | (with_reducible apply Below.drew) | ((with_reducible apply bl_alloc); (focus (first | exact Nat.le_refl _ | (simp; done) | (simp; omega) | omega))) | ((with_reducible apply bl_setCell); (focus (first | exact Nat.le_refl _ | (simp; done) | (simp; omega) | omega))) | ((with_reducible apply up_tr); assumption)))⟩ (fun wS hSS hSu => ?_)
      have ⟨hS1, hS2, hS3, hS4, hS5, hSB⟩ := hSS
      clear g1 g2 g3 g4 gp gq gB
      refine wpAnyU_take (i := 0) (d := (some 41)) (v := _) rfl rfl (by kernel_rfl) (fun _ _ _ h => h) hSu.out hSS (Or.inl ⟨by rfl, fun w' hSw => yu_value (run_ld undW infoW _ rfl _ rfl hSw.2.2.2.2.1)⟩) ?_
      try simp only [Act.put, pu1, pu2, pu3]
      refine wpAnyU_take (i := 1) (d := (some 42)) (v := _) rfl rfl (by kernel_rfl) (fun _ _ _ h => h) hSu.out hSS (Or.inl ⟨by rfl, fun w' hSw => yu_value (run_ld undW infoW _ rfl _ rfl hSw.1)⟩) ?_
      try simp only [Act.put, pu1, pu2, pu3]
      refine wpAnyU_take (i := 2) (d := (some 43)) (v := _) rfl rfl (by kernel_rfl) (fun _ _ _ h => h) hSu.out hSS (Or.inl ⟨by rfl, fun w' hSw => yu_call ?_ (HMA.out _)⟩) ?_
      · go_simp
      try simp only [Act.put, pu1, pu2, pu3]
      refine wpAnyU_take (i := 3) (d := (some 44)) (v := _) rfl rfl (by kernel_rfl) (fun _ _ _ h => h) hSu.out hSS (Or.inl ⟨by rfl, fun w' hSw => yu_call ?_ (HSR.out _)⟩) ?_
      · go_simp
      try simp only [Act.put, pu1, pu2, pu3]
      refine wpAnyU_pure (i := 4) (d := (some 40)) (v := ?_) rfl rfl (by kernel_rfl) (fun _ _ _ h => h) hSu.out (Or.inl ⟨by rfl, fun w' _ => yu_value ?_⟩) ?_
      rotate_left
      · (go_simp; (try exact rfl))
      try simp only [Act.put, pu1, pu2, pu3]
      refine wpAnyU_pure (i := 5) (d := (some 45)) (v := ?_) rfl rfl (by kernel_rfl) (fun _ _ _ h => h) hSu.out (Or.inl ⟨by rfl, fun w' _ => yu_value ?_⟩) ?_
      rotate_left
      · (go_simp; (try exact rfl))
      try simp only [Act.put, pu1, pu2, pu3]
      refine wpAnyU_pure (i := 6) (d := (some 46)) (v := ?_) rfl rfl (by kernel_rfl) (fun _ _ _ h => h) hSu.out (Or.inl ⟨by rfl, fun w' _ => yu_value ?_⟩) ?_
      rotate_left
      · (go_simp; (try exact rfl))
      try simp only [Act.put, pu1, pu2, pu3]
      have m3 := hS3.lt
      have m4 := hS4.lt
      have m5 := hS5.lt
      refine wpAnyU_allocW (i := 7) (d := (some 11)) rfl rfl (by kernel_rfl) (by rfl) rfl hSu.out fun w6 hw6 => ?_
      try simp only [Act.put, pu1, pu2, pu3]
      refine wpAnyU_one (i := 8) rfl (by kernel_rfl) (by rfl) fun w7 hw7 => ?_
      refine wp_st_rowN infoW rfl _ _ rfl _ rfl rfl ((Row.up (row_newc _ 16 _ rfl) hw7)) ?_
      refine ⟨fun h => by simp at h, ?_⟩
      try simp only [Act.put, pu1, pu2, pu3]
      refine wpAnyU_pure (i := 9) (d := (some 12)) (v := ?_) rfl rfl (by kernel_rfl) (fun _ _ _ h => h) hSu.out (Or.inl ⟨by rfl, fun w' _ => yu_value ?_⟩) ?_
      rotate_left
      · (go_simp; (try exact rfl))
      try simp only [Act.put, pu1, pu2, pu3]
      refine wpAnyU_done (by kernel_rfl) (fun wF huE => ?_) _
      have m7 := hw6.size
      have hnew : Row (w6.alloc (.cells (cells 16 (fun _ => 0)) 27)) w6.heap.size 27 16 (fun _ => 0) := row_newc _ 16 _ rfl
      have g3 := (((((hS2).up hw6).up (Up.alloc _ _)).up hw7).row_other (cells 16 (limb er)) (show w.heap.size + 1 + 1 ≠ w6.heap.size by omega)).up huE
      have g4 := (((((hS3).up hw6).up (Up.alloc _ _)).up hw7).row_other (cells 16 (limb er)) (show w.heap.size + 1 + 1 + 1 ≠ w6.heap.size by omega)).up huE
      have gp := (((((hS4).up hw6).up (Up.alloc _ _)).up hw7).row_other (cells 16 (limb er)) (show w4.heap.size ≠ w6.heap.size by omega)).up huE
      have gr := (((hnew).up hw7).setRow (limb er)).up huE
      have gB := below_up (below_setRow (below_up (below_up (below_up (hSB) hw6) (Up.alloc _ _)) hw7) (show w.heap.size ≤ w6.heap.size by omega) (cells 16 (limb er))) huE
      clear hS1 hS2 hS3 hS4 hS5 hSB hSS hw6 hw7 huE hnew
      go_wp2
      refine wp_region_upH (S := (fun wq => Row wq w4.heap.size 27 16 (limb eq) ∧ Row wq w6.heap.size 27 16 (limb er) ∧ ExRow wq (w.heap.size + 1 + 1) 27 16 ∧ ExRow wq (w.heap.size + 1 + 1 + 1) 27 16 ∧ Below w.heap.size w wq)) (req := (fun j => j != 3)) (by kernel_rfl) (fun _ _ h hu => ⟨(h.1).up hu, (h.2.1).up hu, (h.2.2.1).up hu, (h.2.2.2.1).up hu, below_up (h.2.2.2.2) hu⟩) ⟨(by (repeat (first | assumption | ((with_reducible apply row_newc); (focus (first | rfl | (simp; done)))) | ((with_reducible apply row_newz); (focus (first | rfl | (simp; done)))) | (with_reducible apply row_same) | ((with_reducible apply row_else); (focus (first | (simp; done) | (simp; omega) | omega))) | (with_reducible apply row_alloc) | (with_reducible apply row_drew) | (with_reducible apply row_drewN) | ((with_reducible apply row_up); assumption)))), (by (repeat (first | assumption | ((with_reducible apply row_newc); (focus (first | rfl | (simp; done)))) | ((with_reducible apply row_newz); (focus (first | rfl | (simp; done)))) | (with_reducible apply row_same) | ((with_reducible apply row_else); (focus (first | (simp; done) | (simp; omega) | omega))) | (with_reducible apply row_alloc) | (with_reducible apply row_drew) | (with_reducible apply row_drewN) | ((with_reducible apply row_up); assumption)))), ⟨_, (by (repeat (first | assumption | ((with_reducible apply row_newc); (focus (first | rfl | (simp; done)))) | ((with_reducible apply row_newz); (focus (first | rfl | (simp; done)))) | (with_reducible apply row_same) | ((with_reducible apply row_else); (focus (first | (simp; done) | (simp; omega) | omega))) | (with_reducible apply row_alloc) | (with_reducible apply row_drew) | (with_reducible apply row_drewN) | ((with_reducible apply row_up); assumption))))⟩, ⟨_, (by (repeat (first | assumption | ((with_reducible apply row_newc); (focus (first | rfl | (simp; done)))) | ((with_reducible apply row_newz); (focus (first | rfl | (simp; done)))) | (with_reducible apply row_same) | ((with_reducible apply row_else); (focus (first | (simp; done) | (simp; omega) | omega))) | (with_reducible apply row_alloc) | (with_reducible apply row_drew) | (with_reducible apply row_drewN) | ((with_reducible apply row_up); assumption))))⟩, (by repeat (first | assumption | (with_reducible apply Up.of) | (with_reducible exact Below.refl _ _) | (with_reducible exact Up.refl _) | ((with_reducible apply bl_setRow); (focus (first | exact Nat.le_refl _ | (simp; done) | (simp; omega) | omega))) | (with_reducible apply below_drewN) | (with_reducible apply Below.drew) | ((with_reducible apply bl_alloc); (focus (first | exact Nat.le_refl _ | (simp; done) | (simp; omega) | omega))) | ((with_reducible apply bl_setCell); (focus (first | exact Nat.le_refl _ | (simp; done) | (simp; omega) | omega))) | ((with_reducible apply up_tr); assumption)))⟩ (fun wS hSS hSu => ?_)
      have ⟨hS1, hS2, hS3, hS4, hSB⟩ := hSS
      clear g3 g4 gp gr gB
      refine wpAnyU_take (i := 0) (d := (some 47)) (v := _) rfl rfl (by kernel_rfl) (fun _ _ _ h => h) hSu.out hSS (Or.inl ⟨by rfl, fun w' hSw => yu_value (run_ld undW infoW _ rfl _ rfl hSw.1)⟩) ?_
      try simp only [Act.put, pu1, pu2, pu3]
      refine wpAnyU_take (i := 1) (d := (some 48)) (v := _) rfl rfl (by kernel_rfl) (fun _ _ _ h => h) hSu.out hSS (Or.inl ⟨by rfl, fun w' hSw => yu_value (run_ld undW infoW _ rfl _ rfl hSw.2.1)⟩) ?_
      try simp only [Act.put, pu1, pu2, pu3]
      obtain ⟨v3, hS3⟩ := hS3
      obtain ⟨v4, hS4⟩ := hS4
      refine wpAnyU_one (i := 2) rfl (by kernel_rfl) (by rfl) fun w8 hw8 => ?_
      refine wp_st_rowN infoW rfl _ _ rfl _ rfl rfl (hS3.up hw8) ?_
      refine ⟨fun _ h => ⟨h.1.row_other _ (by omega), h.2.1.row_other _ (by omega), h.2.2.1.st _, h.2.2.2.1.st _, below_setRow h.2.2.2.2 (by omega) _⟩, ?_⟩
      refine wpAnyU_one (i := 3) rfl (by kernel_rfl) (by rfl) fun w9 hw9 => ?_
      refine wp_st_rowN infoW rfl _ _ rfl _ rfl rfl ((Row.up (((hS4.up hw8).row_other (cells 16 (limb eq)) (show w.heap.size + 1 + 1 + 1 ≠ w.heap.size + 1 + 1 by omega))) hw9)) ?_
      refine ⟨fun h => by simp at h, ?_⟩
      try simp only [Act.put, pu1, pu2, pu3]
      refine wpAnyU_pure (i := 4) (d := (some 6)) (v := ?_) rfl rfl (by kernel_rfl) (fun _ _ _ h => h) hSu.out (Or.inl ⟨by rfl, fun w' _ => yu_value ?_⟩) ?_
      rotate_left
      · (go_simp; (try exact rfl))
      try simp only [Act.put, pu1, pu2, pu3]
      refine wpAnyU_done (by kernel_rfl) (fun wF huE => ?_) _
      have gA := (((((hS3).up hw8).setRow (limb eq)).up hw9).row_other (cells 16 (limb er)) (show w.heap.size + 1 + 1 ≠ w.heap.size + 1 + 1 + 1 by omega)).up huE
      have gC := (((((hS4).up hw8).row_other (cells 16 (limb eq)) (show w.heap.size + 1 + 1 + 1 ≠ w.heap.size + 1 + 1 by omega)).up hw9).setRow (limb er)).up huE
      have gB := below_up (below_setRow (below_up (below_setRow (below_up (hSB) hw8) (show w.heap.size ≤ w.heap.size + 1 + 1 by omega) (cells 16 (limb eq))) hw9) (show w.heap.size ≤ w.heap.size + 1 + 1 + 1 by omega) (cells 16 (limb er))) huE
      clear hS1 hS2 hS3 hS4 hSB hSS hw8 hw9 huE
      go_wp2
      exact bodyPost_ret (resCCT rfl undW infoW _ _ _ rfl rfl gA gC) rfl ⟨rfl, gB⟩
    · rw [opt_no hin] at hSQ
      have HSQ := hid hSQ
      have e : divZV a b = .tuple #[.agg (cells 16 (fun _ => 0)), .agg (cells 16 (fun _ => 0)), .bool false] := by unfold divZV; rw [if_pos (.inr hin)]
      rw [e]
      clear e hSQ hin h0
      unfold wideV at *
      go_enter Try.func7, Try.ntmps7
      go_wp2_with (first | ((with_reducible apply ld_rowP undW infoW); exact rfl; exact rfl; focus (repeat (first | assumption | ((with_reducible apply row_newc); (focus (first | rfl | (simp; done)))) | ((with_reducible apply row_newz); (focus (first | rfl | (simp; done)))) | (with_reducible apply row_same) | ((with_reducible apply row_else); (focus (first | (simp; done) | (simp; omega) | omega))) | (with_reducible apply row_alloc) | (with_reducible apply row_drew) | (with_reducible apply row_drewN) | ((with_reducible apply row_up); assumption)))) | ((with_reducible apply st_rowP infoW); exact rfl; exact rfl; focus (repeat (first | assumption | ((with_reducible apply row_newc); (focus (first | rfl | (simp; done)))) | ((with_reducible apply row_newz); (focus (first | rfl | (simp; done)))) | (with_reducible apply row_same) | ((with_reducible apply row_else); (focus (first | (simp; done) | (simp; omega) | omega))) | (with_reducible apply row_alloc) | (with_reducible apply row_drew) | (with_reducible apply row_drewN) | ((with_reducible apply row_up); assumption)))) | ((with_reducible apply st_rowZ infoW); exact rfl; exact rfl; focus (repeat (first | assumption | ((with_reducible apply row_newc); (focus (first | rfl | (simp; done)))) | ((with_reducible apply row_newz); (focus (first | rfl | (simp; done)))) | (with_reducible apply row_same) | ((with_reducible apply row_else); (focus (first | (simp; done) | (simp; omega) | omega))) | (with_reducible apply row_alloc) | (with_reducible apply row_drew) | (with_reducible apply row_drewN) | ((with_reducible apply row_up); assumption)))) | ((with_reducible apply eqP); exact rfl; exact rfl; exact rfl; assumption; assumption; assumption) | ((with_reducible apply eqZP); exact rfl; exact rfl; exact rfl; assumption; assumption) | ((with_reducible apply neP); exact rfl; exact rfl; exact rfl; assumption; assumption; assumption) | ((with_reducible apply neZP); exact rfl; exact rfl; exact rfl; assumption; assumption))
      refine wp_region_upH (S := (fun wq => Row wq (w.heap.size) 27 16 (limb (enc a)) ∧ Row wq (w.heap.size + 1) 27 16 (limb (enc b)) ∧ Row wq (w.heap.size + 1 + 1) 27 16 (fun _ => 0) ∧ Row wq (w.heap.size + 1 + 1 + 1) 27 16 (fun _ => 0) ∧ Below w.heap.size w wq)) (req := (fun j => j != 10 && j != 11)) (by kernel_rfl) (fun _ _ h hu => ⟨(h.1).up hu, (h.2.1).up hu, (h.2.2.1).up hu, (h.2.2.2.1).up hu, below_up (h.2.2.2.2) hu⟩) ⟨(by (repeat (first | assumption | ((with_reducible apply row_newc); (focus (first | rfl | (simp; done)))) | ((with_reducible apply row_newz); (focus (first | rfl | (simp; done)))) | (with_reducible apply row_same) | ((with_reducible apply row_else); (focus (first | (simp; done) | (simp; omega) | omega))) | (with_reducible apply row_alloc) | (with_reducible apply row_drew) | (with_reducible apply row_drewN) | ((with_reducible apply row_up); assumption)))), (by (repeat (first | assumption | ((with_reducible apply row_newc); (focus (first | rfl | (simp; done)))) | ((with_reducible apply row_newz); (focus (first | rfl | (simp; done)))) | (with_reducible apply row_same) | ((with_reducible apply row_else); (focus (first | (simp; done) | (simp; omega) | omega))) | (with_reducible apply row_alloc) | (with_reducible apply row_drew) | (with_reducible apply row_drewN) | ((with_reducible apply row_up); assumption)))), (by (repeat (first | assumption | ((with_reducible apply row_newc); (focus (first | rfl | (simp; done)))) | ((with_reducible apply row_newz); (focus (first | rfl | (simp; done)))) | (with_reducible apply row_same) | ((with_reducible apply row_else); (focus (first | (simp; done) | (simp; omega) | omega))) | (with_reducible apply row_alloc) | (with_reducible apply row_drew) | (with_reducible apply row_drewN) | ((with_reducible apply row_up); assumption)))), (by (repeat (first | assumption | ((with_reducible apply row_newc); (focus (first | rfl | (simp; done)))) | ((with_reducible apply row_newz); (focus (first | rfl | (simp; done)))) | (with_reducible apply row_same) | ((with_reducible apply row_else); (focus (first | (simp; done) | (simp; omega) | omega))) | (with_reducible apply row_alloc) | (with_reducible apply row_drew) | (with_reducible apply row_drewN) | ((with_reducible apply row_up); assumption)))), (by repeat (first | assumption | (with_reducible apply Up.of) | (with_reducible exact Below.refl _ _) | (with_reducible exact Up.refl _) | ((with_reducible apply bl_setRow); (focus (first | exact Nat.le_refl _ | (simp; done) | (simp; omega) | omega))) | (with_reducible apply below_drewN) | (with_reducible apply Below.drew) | ((with_reducible apply bl_alloc); (focus (first | exact Nat.le_refl _ | (simp; done) | (simp; omega) | omega))) | ((with_reducible apply bl_setCell); (focus (first | exact Nat.le_refl _ | (simp; done) | (simp; omega) | omega))) | ((with_reducible apply up_tr); assumption)))⟩ (fun wS hSS hSu => ?_)
      have ⟨hS1, hS2, hS3, hS4, hSB⟩ := hSS
      refine wpAnyU_take (i := 0) (d := (some 19)) (v := _) rfl rfl (by kernel_rfl) (fun _ _ _ h => h) hSu.out hSS (Or.inl ⟨by rfl, fun w' hSw => yu_value (run_ld undW infoW _ rfl _ rfl hSw.1)⟩) ?_
      try simp only [Act.put, pu1, pu2, pu3]
      refine wpAnyU_take (i := 1) (d := (some 20)) (v := _) rfl rfl (by kernel_rfl) (fun _ _ _ h => h) hSu.out hSS (Or.inl ⟨by rfl, fun w' hSw => yu_call ?_ (HA.out _)⟩) ?_
      · go_simp
      try simp only [Act.put, pu1, pu2, pu3]
      refine wpAnyU_take (i := 2) (d := (some 21)) (v := _) rfl rfl (by kernel_rfl) (fun _ _ _ h => h) hSu.out hSS (Or.inl ⟨by rfl, fun w' hSw => yu_value (run_ld undW infoW _ rfl _ rfl hSw.2.1)⟩) ?_
      try simp only [Act.put, pu1, pu2, pu3]
      refine wpAnyU_take (i := 3) (d := (some 22)) (v := _) rfl rfl (by kernel_rfl) (fun _ _ _ h => h) hSu.out hSS (Or.inl ⟨by rfl, fun w' hSw => yu_call ?_ (HB.out _)⟩) ?_
      · go_simp
      try simp only [Act.put, pu1, pu2, pu3]
      refine wpAnyU_take (i := 4) (d := (some 23)) (v := _) rfl rfl (by kernel_rfl) (fun _ _ _ h => h) hSu.out hSS (Or.inl ⟨by rfl, fun w' hSw => yu_call ?_ (HD.out _)⟩) ?_
      · go_simp
      try simp only [Act.put, pu1, pu2, pu3]
      refine wpAnyU_pure (i := 5) (d := (some 18)) (v := ?_) rfl rfl (by kernel_rfl) (fun _ _ _ h => h) hSu.out (Or.inl ⟨by rfl, fun w' _ => yu_value ?_⟩) ?_
      rotate_left
      · (go_simp; (try exact rfl))
      try simp only [Act.put, pu1, pu2, pu3]
      refine wpAnyU_pure (i := 6) (d := (some 24)) (v := ?_) rfl rfl (by kernel_rfl) (fun _ _ _ h => h) hSu.out (Or.inl ⟨by rfl, fun w' _ => yu_value ?_⟩) ?_
      rotate_left
      · (go_simp; (try exact rfl))
      try simp only [Act.put, pu1, pu2, pu3]
      refine wpAnyU_pure (i := 7) (d := (some 25)) (v := ?_) rfl rfl (by kernel_rfl) (fun _ _ _ h => h) hSu.out (Or.inl ⟨by rfl, fun w' _ => yu_value ?_⟩) ?_
      rotate_left
      · (go_simp; (try exact rfl))
      try simp only [Act.put, pu1, pu2, pu3]
      refine wpAnyU_alloc2 (i := 8) (j := 9) (di := 7) (dj := 8) rfl rfl rfl rfl (by decide) rfl rfl rfl rfl (by kernel_rfl) (by kernel_rfl) (by kernel_rfl) (by decide) (fun _ _ h hu => ⟨(h.1).up hu, (h.2.1).up hu, (h.2.2.1).up hu, (h.2.2.2.1).up hu, below_up (h.2.2.2.2) hu⟩) fun w1 p q' hw1 hp hq hpq hpl hql => ?_
      try simp only [Act.put, pu1, pu2, pu3]
      have hlt := hS4.lt
      refine wpAnyU_one (i := 10) rfl (by kernel_rfl) (by rfl) fun w2 hw2 => ?_
      refine wp_st_rowN infoW rfl _ _ rfl _ rfl rfl ((hp.up hw2)) ?_
      refine ⟨fun h => by simp at h, ?_⟩
      try simp only [Act.put, pu1, pu2, pu3]
      refine wpAnyU_one (i := 11) rfl (by kernel_rfl) (by rfl) fun w3 hw3 => ?_
      refine wp_st_rowN infoW rfl _ _ rfl _ rfl rfl ((((hq.up hw2).row_other (cells 16 (limb q)) (show q' ≠ p by omega)).up hw3)) ?_
      refine ⟨fun h => by simp at h, ?_⟩
      try simp only [Act.put, pu1, pu2, pu3]
      refine wpAnyU_done (by kernel_rfl) (fun wF huE => ?_) _
      have g1 := ((((((hS1).up hw1).up hw2).row_other (cells 16 (limb q)) (show w.heap.size ≠ p by omega)).up hw3).row_other (cells 16 (limb r)) (show w.heap.size ≠ q' by omega)).up huE
      have g2 := ((((((hS2).up hw1).up hw2).row_other (cells 16 (limb q)) (show w.heap.size + 1 ≠ p by omega)).up hw3).row_other (cells 16 (limb r)) (show w.heap.size + 1 ≠ q' by omega)).up huE
      have g3 := ((((((hS3).up hw1).up hw2).row_other (cells 16 (limb q)) (show w.heap.size + 1 + 1 ≠ p by omega)).up hw3).row_other (cells 16 (limb r)) (show w.heap.size + 1 + 1 ≠ q' by omega)).up huE
      have g4 := ((((((hS4).up hw1).up hw2).row_other (cells 16 (limb q)) (show w.heap.size + 1 + 1 + 1 ≠ p by omega)).up hw3).row_other (cells 16 (limb r)) (show w.heap.size + 1 + 1 + 1 ≠ q' by omega)).up huE
      have gp := (((((hp).up hw2).setRow (limb q)).up hw3).row_other (cells 16 (limb r)) (show p ≠ q' by omega)).up huE
      have gq := (((((hq).up hw2).row_other (cells 16 (limb q)) (show q' ≠ p by omega)).up hw3).setRow (limb r)).up huE
      have gB := below_up (below_setRow (below_up (below_setRow (below_up (below_up (hSB) hw1) hw2) (show w.heap.size ≤ p by omega) (cells 16 (limb q))) hw3) (show w.heap.size ≤ q' by omega) (cells 16 (limb r))) huE
      clear hS1 hS2 hS3 hS4 hSB hSS hw1 hw2 hw3 huE hp hq
      go_wp2
      refine wp_region_upH (S := (fun wq => Row wq (w.heap.size) 27 16 (limb (enc a)) ∧ Row wq (w.heap.size + 1) 27 16 (limb (enc b)) ∧ Row wq (w.heap.size + 1 + 1) 27 16 (fun _ => 0) ∧ Row wq (w.heap.size + 1 + 1 + 1) 27 16 (fun _ => 0) ∧ Row wq p 27 16 (limb q) ∧ Row wq q' 27 16 (limb r) ∧ Below w.heap.size w wq)) (req := (fun j => j != 11)) (by kernel_rfl) (fun _ _ h hu => ⟨(h.1).up hu, (h.2.1).up hu, (h.2.2.1).up hu, (h.2.2.2.1).up hu, (h.2.2.2.2.1).up hu, (h.2.2.2.2.2.1).up hu, below_up (h.2.2.2.2.2.2) hu⟩) ⟨(by (repeat (first | assumption | ((with_reducible apply row_newc); (focus (first | rfl | (simp; done)))) | ((with_reducible apply row_newz); (focus (first | rfl | (simp; done)))) | (with_reducible apply row_same) | ((with_reducible apply row_else); (focus (first | (simp; done) | (simp; omega) | omega))) | (with_reducible apply row_alloc) | (with_reducible apply row_drew) | (with_reducible apply row_drewN) | ((with_reducible apply row_up); assumption)))), (by (repeat (first | assumption | ((with_reducible apply row_newc); (focus (first | rfl | (simp; done)))) | ((with_reducible apply row_newz); (focus (first | rfl | (simp; done)))) | (with_reducible apply row_same) | ((with_reducible apply row_else); (focus (first | (simp; done) | (simp; omega) | omega))) | (with_reducible apply row_alloc) | (with_reducible apply row_drew) | (with_reducible apply row_drewN) | ((with_reducible apply row_up); assumption)))), (by (repeat (first | assumption | ((with_reducible apply row_newc); (focus (first | rfl | (simp; done)))) | ((with_reducible apply row_newz); (focus (first | rfl | (simp; done)))) | (with_reducible apply row_same) | ((with_reducible apply row_else); (focus (first | (simp; done) | (simp; omega) | omega))) | (with_reducible apply row_alloc) | (with_reducible apply row_drew) | (with_reducible apply row_drewN) | ((with_reducible apply row_up); assumption)))), (by (repeat (first | assumption | ((with_reducible apply row_newc); (focus (first | rfl | (simp; done)))) | ((with_reducible apply row_newz); (focus (first | rfl | (simp; done)))) | (with_reducible apply row_same) | ((with_reducible apply row_else); (focus (first | (simp; done) | (simp; omega) | omega))) | (with_reducible apply row_alloc) | (with_reducible apply row_drew) | (with_reducible apply row_drewN) | ((with_reducible apply row_up); assumption)))), (by (repeat (first | assumption | ((with_reducible apply row_newc); (focus (first | rfl | (simp; done)))) | ((with_reducible apply row_newz); (focus (first | rfl | (simp; done)))) | (with_reducible apply row_same) | ((with_reducible apply row_else); (focus (first | (simp; done) | (simp; omega) | omega))) | (with_reducible apply row_alloc) | (with_reducible apply row_drew) | (with_reducible apply row_drewN) | ((with_reducible apply row_up); assumption)))), (by (repeat (first | assumption | ((with_reducible apply row_newc); (focus (first | rfl | (simp; done)))) | ((with_reducible apply row_newz); (focus (first | rfl | (simp; done)))) | (with_reducible apply row_same) | ((with_reducible apply row_else); (focus (first | (simp; done) | (simp; omega) | omega))) | (with_reducible apply row_alloc) | (with_reducible apply row_drew) | (with_reducible apply row_drewN) | ((with_reducible apply row_up); assumption)))), (by repeat (first | assumption | (with_reducible apply Up.of) | (with_reducible exact Below.refl _ _) | (with_reducible exact Up.refl _) | ((with_reducible apply bl_setRow); (focus (first | exact Nat.le_refl _ | (simp; done) | (simp; omega) | omega))) | (with_reducible apply below_drewN) | (with_reducible apply Below.drew) | ((with_reducible apply bl_alloc); (focus (first | exact Nat.le_refl _ | (simp; done) | (simp; omega) | omega))) | ((with_reducible apply bl_setCell); (focus (first | exact Nat.le_refl _ | (simp; done) | (simp; omega) | omega))) | ((with_reducible apply up_tr); assumption)))⟩ (fun wS hSS hSu => ?_)
      have ⟨hS1, hS2, hS3, hS4, hS5, hS6, hSB⟩ := hSS
      clear g1 g2 g3 g4 gp gq gB
      refine wpAnyU_take (i := 0) (d := (some 27)) (v := _) rfl rfl (by kernel_rfl) (fun _ _ _ h => h) hSu.out hSS (Or.inl ⟨by rfl, fun w' hSw => yu_value (run_ld undW infoW _ rfl _ rfl hSw.2.2.2.2.1)⟩) ?_
      try simp only [Act.put, pu1, pu2, pu3]
      refine wpAnyU_take (i := 1) (d := (some 28)) (v := _) rfl rfl (by kernel_rfl) (fun _ _ _ h => h) hSu.out hSS (Or.inl ⟨by rfl, fun w' hSw => yu_value (run_ld undW infoW _ rfl _ rfl hSw.1)⟩) ?_
      try simp only [Act.put, pu1, pu2, pu3]
      refine wpAnyU_take (i := 2) (d := (some 29)) (v := _) rfl rfl (by kernel_rfl) (fun _ _ _ h => h) hSu.out hSS (Or.inl ⟨by rfl, fun w' hSw => yu_call ?_ (HMA.out _)⟩) ?_
      · go_simp
      try simp only [Act.put, pu1, pu2, pu3]
      refine wpAnyU_take (i := 3) (d := (some 30)) (v := _) rfl rfl (by kernel_rfl) (fun _ _ _ h => h) hSu.out hSS (Or.inl ⟨by rfl, fun w' hSw => yu_value (run_ld undW infoW _ rfl _ rfl hSw.2.1)⟩) ?_
      try simp only [Act.put, pu1, pu2, pu3]
      refine wpAnyU_take (i := 4) (d := (some 31)) (v := _) rfl rfl (by kernel_rfl) (fun _ _ _ h => h) hSu.out hSS (Or.inl ⟨by rfl, fun w' hSw => yu_call ?_ (HMB.out _)⟩) ?_
      · go_simp
      try simp only [Act.put, pu1, pu2, pu3]
      refine wpAnyU_pure (i := 5) (d := (some 32)) (v := ?_) rfl rfl (by kernel_rfl) (fun _ _ _ h => h) hSu.out (Or.inl ⟨by rfl, fun w' _ => yu_value ?_⟩) ?_
      rotate_left
      · (go_simp; (try exact rfl))
      try simp only [Act.put, pu1, pu2, pu3]
      refine wpAnyU_take (i := 6) (d := (some 33)) (v := _) rfl rfl (by kernel_rfl) (fun _ _ _ h => h) hSu.out hSS (Or.inl ⟨by rfl, fun w' hSw => yu_call ?_ (HSQ.out _)⟩) ?_
      · go_simp
      try simp only [Act.put, pu1, pu2, pu3]
      refine wpAnyU_pure (i := 7) (d := (some 26)) (v := ?_) rfl rfl (by kernel_rfl) (fun _ _ _ h => h) hSu.out (Or.inl ⟨by rfl, fun w' _ => yu_value ?_⟩) ?_
      rotate_left
      · (go_simp; (try exact rfl))
      try simp only [Act.put, pu1, pu2, pu3]
      refine wpAnyU_pure (i := 8) (d := (some 34)) (v := ?_) rfl rfl (by kernel_rfl) (fun _ _ _ h => h) hSu.out (Or.inl ⟨by rfl, fun w' _ => yu_value ?_⟩) ?_
      rotate_left
      · (go_simp; (try exact rfl))
      try simp only [Act.put, pu1, pu2, pu3]
      refine wpAnyU_pure (i := 9) (d := (some 35)) (v := ?_) rfl rfl (by kernel_rfl) (fun _ _ _ h => h) hSu.out (Or.inl ⟨by rfl, fun w' _ => yu_value ?_⟩) ?_
      rotate_left
      · (go_simp; (try exact rfl))
      try simp only [Act.put, pu1, pu2, pu3]
      have l4 := hS4.lt
      have l5 := hS5.lt
      have l6 := hS6.lt
      refine wpAnyU_allocW (i := 10) (d := (some 9)) rfl rfl (by kernel_rfl) (by rfl) rfl hSu.out fun w4 hw4 => ?_
      try simp only [Act.put, pu1, pu2, pu3]
      refine wpAnyU_one (i := 11) rfl (by kernel_rfl) (by rfl) fun w5 hw5 => ?_
      refine wp_st_rowN infoW rfl _ _ rfl _ rfl rfl ((Row.up (row_newc _ 16 _ rfl) hw5)) ?_
      refine ⟨fun h => by simp at h, ?_⟩
      try simp only [Act.put, pu1, pu2, pu3]
      refine wpAnyU_pure (i := 12) (d := (some 10)) (v := ?_) rfl rfl (by kernel_rfl) (fun _ _ _ h => h) hSu.out (Or.inl ⟨by rfl, fun w' _ => yu_value ?_⟩) ?_
      rotate_left
      · (go_simp; (try exact rfl))
      try simp only [Act.put, pu1, pu2, pu3]
      refine wpAnyU_done (by kernel_rfl) (fun wF huE => ?_) _
      have l7 := hw4.size
      have hnew : Row (w4.alloc (.cells (cells 16 (fun _ => 0)) 27)) w4.heap.size 27 16 (fun _ => 0) := row_newc _ 16 _ rfl
      have g1 := (((((hS1).up hw4).up (Up.alloc _ _)).up hw5).row_other (cells 16 (fun _ => 0)) (show w.heap.size ≠ w4.heap.size by omega)).up huE
      have g2 := (((((hS2).up hw4).up (Up.alloc _ _)).up hw5).row_other (cells 16 (fun _ => 0)) (show w.heap.size + 1 ≠ w4.heap.size by omega)).up huE
      have g3 := (((((hS3).up hw4).up (Up.alloc _ _)).up hw5).row_other (cells 16 (fun _ => 0)) (show w.heap.size + 1 + 1 ≠ w4.heap.size by omega)).up huE
      have g4 := (((((hS4).up hw4).up (Up.alloc _ _)).up hw5).row_other (cells 16 (fun _ => 0)) (show w.heap.size + 1 + 1 + 1 ≠ w4.heap.size by omega)).up huE
      have gq := (((((hS6).up hw4).up (Up.alloc _ _)).up hw5).row_other (cells 16 (fun _ => 0)) (show q' ≠ w4.heap.size by omega)).up huE
      have gp := (((hnew).up hw5).setRow (fun _ => 0)).up huE
      have gB := below_up (below_setRow (below_up (below_up (below_up (hSB) hw4) (Up.alloc _ _)) hw5) (show w.heap.size ≤ w4.heap.size by omega) (cells 16 (fun _ => 0))) huE
      clear hS1 hS2 hS3 hS4 hS5 hS6 hSB hSS hw4 hw5 huE hnew
      go_wp2_with (first | ((with_reducible apply st_rowP infoW); exact rfl; exact rfl; focus (repeat (first | assumption | ((with_reducible apply row_newc); (focus (first | rfl | (simp; done)))) | ((with_reducible apply row_newz); (focus (first | rfl | (simp; done)))) | (with_reducible apply row_same) | ((with_reducible apply row_else); (focus (first | (simp; done) | (simp; omega) | omega))) | (with_reducible apply row_alloc) | (with_reducible apply row_drew) | (with_reducible apply row_drewN) | ((with_reducible apply row_up); assumption)))) | ((with_reducible apply st_rowZ infoW); exact rfl; exact rfl; focus (repeat (first | assumption | ((with_reducible apply row_newc); (focus (first | rfl | (simp; done)))) | ((with_reducible apply row_newz); (focus (first | rfl | (simp; done)))) | (with_reducible apply row_same) | ((with_reducible apply row_else); (focus (first | (simp; done) | (simp; omega) | omega))) | (with_reducible apply row_alloc) | (with_reducible apply row_drew) | (with_reducible apply row_drewN) | ((with_reducible apply row_up); assumption)))))
      exact bodyPost_ret (resCCT rfl undW infoW _ _ _ rfl rfl (by (repeat (first | assumption | ((with_reducible apply row_newc); (focus (first | rfl | (simp; done)))) | ((with_reducible apply row_newz); (focus (first | rfl | (simp; done)))) | (with_reducible apply row_same) | ((with_reducible apply row_else); (focus (first | (simp; done) | (simp; omega) | omega))) | (with_reducible apply row_alloc) | (with_reducible apply row_drew) | (with_reducible apply row_drewN) | ((with_reducible apply row_up); assumption)))) (by (repeat (first | assumption | ((with_reducible apply row_newc); (focus (first | rfl | (simp; done)))) | ((with_reducible apply row_newz); (focus (first | rfl | (simp; done)))) | (with_reducible apply row_same) | ((with_reducible apply row_else); (focus (first | (simp; done) | (simp; omega) | omega))) | (with_reducible apply row_alloc) | (with_reducible apply row_drew) | (with_reducible apply row_drewN) | ((with_reducible apply row_up); assumption))))) rfl ⟨rfl, (by repeat (first | assumption | (with_reducible apply Up.of) | (with_reducible exact Below.refl _ _) | (with_reducible exact Up.refl _) | ((with_reducible apply bl_setRow); (focus (first | exact Nat.le_refl _ | (simp; done) | (simp; omega) | omega))) | (with_reducible apply below_drewN) | (with_reducible apply Below.drew) | ((with_reducible apply bl_alloc); (focus (first | exact Nat.le_refl _ | (simp; done) | (simp; omega) | omega))) | ((with_reducible apply bl_setCell); (focus (first | exact Nat.le_refl _ | (simp; done) | (simp; omega) | omega))) | ((with_reducible apply up_tr); assumption)))⟩
end Go.Proofs.Ytbogbdokllmanaa
/-
  wide.Round: the nearest whole number, where the amounts' division is told.
-/
namespace Go.Proofs.Ytbogbdokllmanaa
open Go Go.RowKit
set_option maxRecDepth 100000

theorem hb_big : 9223372036854775808 ≤ hb := by
  have h := bp16
  have h2 : bp 16 = bp 15 * 18446744073709551616 := bp_succ 15
  have := bp_pos 15
  omega
/-- What Round tells of two numbers. -/
def roundV (a b : Int) : Value :=
  if 0 < b ∧ InR (a + a) ∧ InR (b + b) ∧ InR (a + a + b) then .tuple #[wideV (enc ((2 * a + b) / (2 * b))), .bool true] else .tuple #[.agg (cells 16 (fun _ => 0)), .bool false]
theorem opt_parts (z : Int) : ∃ (p : Int) (k : Bool), opt z = .tuple #[wideV (enc p), .bool k] ∧ InR p ∧ (k = true ↔ InR z) ∧ (InR z → p = z) := by
  by_cases h : InR z
  · exact ⟨z, true, opt_yes h, h, by simp [h], fun _ => rfl⟩
  · refine ⟨0, false, ?_, InR.mk' (by have := hb_pos; omega), by simp [h], fun h' => absurd h' h⟩
    rw [opt_no h, zero_limb]; rfl
theorem round_floor {s d : Int} (hd : 0 < d) : s / d = if s.tmod d < 0 then s.tdiv d - 1 else s.tdiv d := by
  have h1 := Int.mul_tdiv_add_tmod s d
  have h2 := Int.tmod_lt_of_pos s hd
  have h3 : -d < s.tmod d := by
    have := Int.tmod_lt_of_pos (-s) hd
    rw [Int.neg_tmod] at this
    omega
  generalize s.tdiv d = q at *
  generalize s.tmod d = r at *
  split
  · rw [← h1, show d * q + r = (d + r) + d * (q - 1) by rw [Int.mul_sub]; omega, Int.add_mul_ediv_left _ _ (by omega), Int.ediv_eq_zero_of_lt (by omega) (by omega)]
    omega
  · rw [← h1, Int.add_comm, Int.add_mul_ediv_left _ _ (by omega), Int.ediv_eq_zero_of_lt (by omega) (by omega)]
    omega
theorem tdiv_in {s d : Int} (hs : InR s) (hd : 0 < d) : InR (s.tdiv d) ∧ (s.tmod d < 0 → InR (s.tdiv d - 1)) := by
  have h := hs.out
  have hp := hb_pos
  obtain ⟨m, f⟩ : ∃ m : Nat, d = (m : Int) := ⟨d.natAbs, by omega⟩
  have hm : 0 < m := by omega
  by_cases h0 : s < 0
  · obtain ⟨n, e⟩ : ∃ n : Nat, s = -(n : Int) := ⟨s.natAbs, by omega⟩
    rw [e, f, Int.neg_tdiv, Int.neg_tmod, ← Int.ofNat_tdiv, ← Int.ofNat_tmod]
    have h1 := Nat.div_le_self n m
    have h2 := Nat.div_add_mod n m
    have h3 : 1 * (n / m) ≤ m * (n / m) := Nat.mul_le_mul_right _ hm
    generalize n / m = q at *
    generalize n % m = r at *
    generalize m * q = mq at *
    exact ⟨InR.mk' (by omega), fun h4 => InR.mk' (by omega)⟩
  · obtain ⟨n, e⟩ : ∃ n : Nat, s = (n : Int) := ⟨s.natAbs, by omega⟩
    rw [e, f, ← Int.ofNat_tdiv, ← Int.ofNat_tmod]
    have h1 := Nat.div_le_self n m
    generalize n / m = q at *
    generalize n % m = r at *
    exact ⟨InR.mk' (by omega), fun h4 => by omega⟩
set_option maxHeartbeats 4000000 in
theorem round_z {a b : Int} (ha : InR a) (hb' : InR b)
    (hDV : 0 < b → InR (a + a) → InR (b + b) → InR (a + a + b) → ∀ w, Calls Try.prog 29 #[wideV (a + a + b).natAbs, wideV (b + b).natAbs] w fun e w' => e = .returned (divV (a + a + b).natAbs (b + b).natAbs) ∧ Up w w') (w : World) :
    Calls Try.prog 8 #[wideV (enc a), wideV (enc b)] w fun e w' => e = .returned (roundV a b) ∧ Up w w' := by
  have HSB := hid (fun w => sign_z hb' w)
  by_cases hb0 : 0 < b
  · have es : sgn b = 1 := by
      have h1 : ¬ b < 0 := by omega
      have h2 : ¬ b = 0 := by omega
      simp [sgn, h1, h2]
    rw [es] at HSB
    obtain ⟨pA, kA, eA, iA, jA, vA⟩ := opt_parts (a + a)
    obtain ⟨pB, kB, eB, iB, jB, vB⟩ := opt_parts (b + b)
    obtain ⟨pS, kS, eS, iS, jS, vS⟩ := opt_parts (pA + b)
    have hA := fun w => add_z ha ha w
    rw [eA] at hA
    have hB := fun w => add_z hb' hb' w
    rw [eB] at hB
    have hS := fun w => add_z iA hb' w
    rw [eS] at hS
    have HA := hid hA
    have HB := hid hB
    have HS := hid hS
    clear hA hB hS eA eB eS es
    by_cases hall : kA = true ∧ kB = true ∧ kS = true
    · obtain ⟨rfl, rfl, rfl⟩ := hall
      have iA' := jA.1 rfl
      have iB' := jB.1 rfl
      have eA := vA iA'
      have iS' := jS.1 rfl
      have eS := vS iS'
      have eB := vB iB'
      rw [eA] at iS' eS
      have hspec : roundV a b = .tuple #[wideV (enc ((2 * a + b) / (2 * b))), .bool true] := by unfold roundV; rw [if_pos ⟨hb0, iA', iB', iS'⟩]
      rw [hspec, show 2 * a + b = pS by omega, show 2 * b = pB by omega]
      have hpB : 0 < pB := by omega
      have hfl := round_floor (s := pS) hpB
      obtain ⟨hq1, hq2⟩ := tdiv_in iS hpB
      have hD := fun w => div_z iS iB (fun _ => by rw [eS, eB]; exact hDV hb0 iA' iB' iS') w
      have edv : divZV pS pB = .tuple #[wideV (enc (pS.tdiv pB)), wideV (enc (pS.tmod pB)), .bool true] := by
        unfold divZV
        rw [if_neg (fun h => h.elim (fun h => by omega) (fun h => h hq1))]
      rw [edv] at hD
      have HD := hid hD
      have HSR := hid (fun w => sign_z (tmod_in (b := pB) iS) w)
      rw [hfl]
      clear hDV hspec edv hD jA vA jB vB jS vS iA' iB' iS' eA eS eB hfl
      by_cases hr : pS.tmod pB < 0
      · rw [if_pos hr]
        have e2 : sgn (pS.tmod pB) = -1 := by simp [sgn, hr]
        rw [e2] at HSR
        have i1 : InR 1 := InR.mk' (by have := hb_big; omega)
        have h1 := fun w => sub_z hq1 i1 w
        rw [opt_yes (hq2 hr)] at h1
        have HSU := hid h1
        have HO := hid (fun w => of_any 1 (by decide) (by decide) w)
        clear e2 h1 hr hq1 hq2
        generalize enc (pS.tmod pB) = er at *
        generalize enc (pS.tdiv pB) = eq at *
        generalize enc (pS.tdiv pB - 1) = eq1 at *
        generalize enc 1 = e1 at *
        unfold wideV at *
        go_enter Try.func8, Try.ntmps8
        go_wp2_with (first | ((with_reducible apply ld_rowP undW infoW); exact rfl; exact rfl; focus (repeat (first | assumption | ((with_reducible apply row_newc); (focus (first | rfl | (simp; done)))) | ((with_reducible apply row_newz); (focus (first | rfl | (simp; done)))) | (with_reducible apply row_same) | ((with_reducible apply row_else); (focus (first | (simp; done) | (simp; omega) | omega))) | (with_reducible apply row_alloc) | (with_reducible apply row_drew) | (with_reducible apply row_drewN) | ((with_reducible apply row_up); assumption)))) | ((with_reducible apply st_rowP infoW); exact rfl; exact rfl; focus (repeat (first | assumption | ((with_reducible apply row_newc); (focus (first | rfl | (simp; done)))) | ((with_reducible apply row_newz); (focus (first | rfl | (simp; done)))) | (with_reducible apply row_same) | ((with_reducible apply row_else); (focus (first | (simp; done) | (simp; omega) | omega))) | (with_reducible apply row_alloc) | (with_reducible apply row_drew) | (with_reducible apply row_drewN) | ((with_reducible apply row_up); assumption)))) | ((with_reducible apply st_rowZ infoW); exact rfl; exact rfl; focus (repeat (first | assumption | ((with_reducible apply row_newc); (focus (first | rfl | (simp; done)))) | ((with_reducible apply row_newz); (focus (first | rfl | (simp; done)))) | (with_reducible apply row_same) | ((with_reducible apply row_else); (focus (first | (simp; done) | (simp; omega) | omega))) | (with_reducible apply row_alloc) | (with_reducible apply row_drew) | (with_reducible apply row_drewN) | ((with_reducible apply row_up); assumption)))) | (go_at_call_of 22 (Value.agg (cells 16 (limb (enc b)))); refine (HSB.out _).mono ?_; rintro e w' ⟨rfl, hu⟩; have hsz0 := hu.size; (try simp at hsz0)) | (go_at_call_of 18 (Value.agg (cells 16 (limb (enc pA)))); refine (HS.out _).mono ?_; rintro e w' ⟨rfl, hu⟩; have hsz3 := hu.size; (try simp at hsz3)) | (go_at_call_of 18 (Value.agg (cells 16 (limb (enc a)))); refine (HA.out _).mono ?_; rintro e w' ⟨rfl, hu⟩; have hsz1 := hu.size; (try simp at hsz1)) | (go_at_call_of 18 (Value.agg (cells 16 (limb (enc b)))); refine (HB.out _).mono ?_; rintro e w' ⟨rfl, hu⟩; have hsz2 := hu.size; (try simp at hsz2)) | (go_at_call 7; refine (HD.out _).mono ?_; rintro e wD ⟨rfl, hu⟩; have hsz4 := hu.size; (try simp at hsz4)) | (go_at_call 22; refine (HSR.out _).mono ?_; rintro e w' ⟨rfl, hu⟩; skip))
        refine wp_region_upH (S := (fun wq => Row wq wD.heap.size 27 16 (limb eq) ∧ Row wq (w.heap.size + 1 + 1) 27 16 (fun _ => 0) ∧ Below w.heap.size w wq)) (req := (fun j => j != 5)) (by kernel_rfl) (fun _ _ h hu => ⟨(h.1).up hu, (h.2.1).up hu, below_up (h.2.2) hu⟩) ⟨(by (repeat (first | assumption | ((with_reducible apply row_newc); (focus (first | rfl | (simp; done)))) | ((with_reducible apply row_newz); (focus (first | rfl | (simp; done)))) | (with_reducible apply row_same) | ((with_reducible apply row_else); (focus (first | (simp; done) | (simp; omega) | omega))) | (with_reducible apply row_alloc) | (with_reducible apply row_drew) | (with_reducible apply row_drewN) | ((with_reducible apply row_up); assumption)))), (by (repeat (first | assumption | ((with_reducible apply row_newc); (focus (first | rfl | (simp; done)))) | ((with_reducible apply row_newz); (focus (first | rfl | (simp; done)))) | (with_reducible apply row_same) | ((with_reducible apply row_else); (focus (first | (simp; done) | (simp; omega) | omega))) | (with_reducible apply row_alloc) | (with_reducible apply row_drew) | (with_reducible apply row_drewN) | ((with_reducible apply row_up); assumption)))), (by repeat (first | assumption | (with_reducible apply Up.of) | (with_reducible exact Below.refl _ _) | (with_reducible exact Up.refl _) | ((with_reducible apply bl_setRow); (focus (first | exact Nat.le_refl _ | (simp; done) | (simp; omega) | omega))) | (with_reducible apply below_drewN) | (with_reducible apply Below.drew) | ((with_reducible apply bl_alloc); (focus (first | exact Nat.le_refl _ | (simp; done) | (simp; omega) | omega))) | ((with_reducible apply bl_setCell); (focus (first | exact Nat.le_refl _ | (simp; done) | (simp; omega) | omega))) | ((with_reducible apply up_tr); assumption)))⟩ (fun wS hSS hSu => ?_)
        have ⟨hS1, hS2, hSB⟩ := hSS
        refine wpAnyU_take (i := 0) (d := (some 58)) (v := _) rfl rfl (by kernel_rfl) (fun _ _ _ h => h) hSu.out hSS (Or.inl ⟨by rfl, fun w' hSw => yu_value (run_ld undW infoW _ rfl _ rfl hSw.1)⟩) ?_
        try simp only [Act.put, pu1, pu2, pu3]
        refine wpAnyU_take (i := 1) (d := (some 59)) (v := _) rfl rfl (by kernel_rfl) (fun _ _ _ h => h) hSu.out hSS (Or.inl ⟨by rfl, fun w' hSw => yu_call ?_ (HO.out _)⟩) ?_
        · go_simp
        try simp only [Act.put, pu1, pu2, pu3]
        refine wpAnyU_take (i := 2) (d := (some 60)) (v := _) rfl rfl (by kernel_rfl) (fun _ _ _ h => h) hSu.out hSS (Or.inl ⟨by rfl, fun w' hSw => yu_call ?_ (HSU.out _)⟩) ?_
        · go_simp
        try simp only [Act.put, pu1, pu2, pu3]
        refine wpAnyU_pure (i := 3) (d := (some 61)) (v := ?_) rfl rfl (by kernel_rfl) (fun _ _ _ h => h) hSu.out (Or.inl ⟨by rfl, fun w' _ => yu_value ?_⟩) ?_
        rotate_left
        · (go_simp; (try exact rfl))
        try simp only [Act.put, pu1, pu2, pu3]
        refine wpAnyU_pure (i := 4) (d := (some 62)) (v := ?_) rfl rfl (by kernel_rfl) (fun _ _ _ h => h) hSu.out (Or.inl ⟨by rfl, fun w' _ => yu_value ?_⟩) ?_
        rotate_left
        · (go_simp; (try exact rfl))
        try simp only [Act.put, pu1, pu2, pu3]
        refine wpAnyU_one (i := 5) rfl (by kernel_rfl) (by rfl) fun w9 hw9 => ?_
        refine wp_st_rowN infoW rfl _ _ rfl _ rfl rfl ((hS2.up hw9)) ?_
        refine ⟨fun h => by simp at h, ?_⟩
        try simp only [Act.put, pu1, pu2, pu3]
        refine wpAnyU_pure (i := 6) (d := (some 5)) (v := ?_) rfl rfl (by kernel_rfl) (fun _ _ _ h => h) hSu.out (Or.inl ⟨by rfl, fun w' _ => yu_value ?_⟩) ?_
        rotate_left
        · (go_simp; (try exact rfl))
        try simp only [Act.put, pu1, pu2, pu3]
        refine wpAnyU_done (by kernel_rfl) (fun wF huE => ?_) _
        have gR := ((hS2.up hw9).setRow (limb eq1)).up huE
        have gB := below_up (below_setRow (below_up hSB hw9) (show w.heap.size ≤ w.heap.size + 1 + 1 by omega) (cells 16 (limb eq1))) huE
        clear hS1 hS2 hSB hSS hw9 huE
        go_wp2
        exact bodyPost_ret (res2 rfl undW infoW _ _ rfl gR) rfl ⟨rfl, gB⟩
      · rw [if_neg hr]
        have e2 : 0 ≤ sgn (pS.tmod pB) := by
          simp only [sgn, hr, if_false]
          split <;> omega
        obtain ⟨sr, esr⟩ : ∃ sr, sgn (pS.tmod pB) = sr := ⟨_, rfl⟩
        rw [esr] at HSR e2
        have hneg : ¬ sr < 0 := by omega
        clear e2 esr hr hq1 hq2
        generalize enc (pS.tmod pB) = er at *
        generalize enc (pS.tdiv pB) = eq at *
        unfold wideV at *
        go_enter Try.func8, Try.ntmps8
        go_wp2_with (first | ((with_reducible apply ld_rowP undW infoW); exact rfl; exact rfl; focus (repeat (first | assumption | ((with_reducible apply row_newc); (focus (first | rfl | (simp; done)))) | ((with_reducible apply row_newz); (focus (first | rfl | (simp; done)))) | (with_reducible apply row_same) | ((with_reducible apply row_else); (focus (first | (simp; done) | (simp; omega) | omega))) | (with_reducible apply row_alloc) | (with_reducible apply row_drew) | (with_reducible apply row_drewN) | ((with_reducible apply row_up); assumption)))) | ((with_reducible apply st_rowP infoW); exact rfl; exact rfl; focus (repeat (first | assumption | ((with_reducible apply row_newc); (focus (first | rfl | (simp; done)))) | ((with_reducible apply row_newz); (focus (first | rfl | (simp; done)))) | (with_reducible apply row_same) | ((with_reducible apply row_else); (focus (first | (simp; done) | (simp; omega) | omega))) | (with_reducible apply row_alloc) | (with_reducible apply row_drew) | (with_reducible apply row_drewN) | ((with_reducible apply row_up); assumption)))) | ((with_reducible apply st_rowZ infoW); exact rfl; exact rfl; focus (repeat (first | assumption | ((with_reducible apply row_newc); (focus (first | rfl | (simp; done)))) | ((with_reducible apply row_newz); (focus (first | rfl | (simp; done)))) | (with_reducible apply row_same) | ((with_reducible apply row_else); (focus (first | (simp; done) | (simp; omega) | omega))) | (with_reducible apply row_alloc) | (with_reducible apply row_drew) | (with_reducible apply row_drewN) | ((with_reducible apply row_up); assumption)))) | (go_at_call_of 22 (Value.agg (cells 16 (limb (enc b)))); refine (HSB.out _).mono ?_; rintro e w' ⟨rfl, hu⟩; have hsz0 := hu.size; (try simp at hsz0)) | (go_at_call_of 18 (Value.agg (cells 16 (limb (enc pA)))); refine (HS.out _).mono ?_; rintro e w' ⟨rfl, hu⟩; have hsz3 := hu.size; (try simp at hsz3)) | (go_at_call_of 18 (Value.agg (cells 16 (limb (enc a)))); refine (HA.out _).mono ?_; rintro e w' ⟨rfl, hu⟩; have hsz1 := hu.size; (try simp at hsz1)) | (go_at_call_of 18 (Value.agg (cells 16 (limb (enc b)))); refine (HB.out _).mono ?_; rintro e w' ⟨rfl, hu⟩; have hsz2 := hu.size; (try simp at hsz2)) | (go_at_call 7; refine (HD.out _).mono ?_; rintro e wD ⟨rfl, hu⟩; have hsz4 := hu.size; (try simp at hsz4)) | (go_at_call 22; refine (HSR.out _).mono ?_; rintro e w' ⟨rfl, hu⟩; skip))
        exact bodyPost_ret (res2 rfl undW infoW _ _ rfl (by (repeat (first | assumption | ((with_reducible apply row_newc); (focus (first | rfl | (simp; done)))) | ((with_reducible apply row_newz); (focus (first | rfl | (simp; done)))) | (with_reducible apply row_same) | ((with_reducible apply row_else); (focus (first | (simp; done) | (simp; omega) | omega))) | (with_reducible apply row_alloc) | (with_reducible apply row_drew) | (with_reducible apply row_drewN) | ((with_reducible apply row_up); assumption))))) rfl ⟨rfl, (by repeat (first | assumption | (with_reducible apply Up.of) | (with_reducible exact Below.refl _ _) | (with_reducible exact Up.refl _) | ((with_reducible apply bl_setRow); (focus (first | exact Nat.le_refl _ | (simp; done) | (simp; omega) | omega))) | (with_reducible apply below_drewN) | (with_reducible apply Below.drew) | ((with_reducible apply bl_alloc); (focus (first | exact Nat.le_refl _ | (simp; done) | (simp; omega) | omega))) | ((with_reducible apply bl_setCell); (focus (first | exact Nat.le_refl _ | (simp; done) | (simp; omega) | omega))) | ((with_reducible apply up_tr); assumption)))⟩
    · have hspec : roundV a b = .tuple #[.agg (cells 16 (fun _ => 0)), .bool false] := by
        unfold roundV
        rw [if_neg]
        rintro ⟨_, h1, h2, h3⟩
        have := jA.2 h1
        have e := vA h1
        rw [← e] at h3
        exact hall ⟨this, jB.2 h2, jS.2 h3⟩
      rw [hspec]
      clear hspec hDV jA vA jB vB jS vS
      cases kA <;> cases kB <;> cases kS
      case true.true.true => exact absurd ⟨rfl, rfl, rfl⟩ hall
      all_goals
        clear hall
        unfold wideV at *
        go_enter Try.func8, Try.ntmps8
        go_wp2_with (first | ((with_reducible apply ld_rowP undW infoW); exact rfl; exact rfl; focus (repeat (first | assumption | ((with_reducible apply row_newc); (focus (first | rfl | (simp; done)))) | ((with_reducible apply row_newz); (focus (first | rfl | (simp; done)))) | (with_reducible apply row_same) | ((with_reducible apply row_else); (focus (first | (simp; done) | (simp; omega) | omega))) | (with_reducible apply row_alloc) | (with_reducible apply row_drew) | (with_reducible apply row_drewN) | ((with_reducible apply row_up); assumption)))) | ((with_reducible apply st_rowP infoW); exact rfl; exact rfl; focus (repeat (first | assumption | ((with_reducible apply row_newc); (focus (first | rfl | (simp; done)))) | ((with_reducible apply row_newz); (focus (first | rfl | (simp; done)))) | (with_reducible apply row_same) | ((with_reducible apply row_else); (focus (first | (simp; done) | (simp; omega) | omega))) | (with_reducible apply row_alloc) | (with_reducible apply row_drew) | (with_reducible apply row_drewN) | ((with_reducible apply row_up); assumption)))) | ((with_reducible apply st_rowZ infoW); exact rfl; exact rfl; focus (repeat (first | assumption | ((with_reducible apply row_newc); (focus (first | rfl | (simp; done)))) | ((with_reducible apply row_newz); (focus (first | rfl | (simp; done)))) | (with_reducible apply row_same) | ((with_reducible apply row_else); (focus (first | (simp; done) | (simp; omega) | omega))) | (with_reducible apply row_alloc) | (with_reducible apply row_drew) | (with_reducible apply row_drewN) | ((with_reducible apply row_up); assumption)))) | (go_at_call_of 22 (Value.agg (cells 16 (limb (enc b)))); refine (HSB.out _).mono ?_; rintro e w' ⟨rfl, hu⟩; have hsz0 := hu.size; (try simp at hsz0)) | (go_at_call_of 18 (Value.agg (cells 16 (limb (enc pA)))); refine (HS.out _).mono ?_; rintro e w' ⟨rfl, hu⟩; have hsz3 := hu.size; (try simp at hsz3)) | (go_at_call_of 18 (Value.agg (cells 16 (limb (enc a)))); refine (HA.out _).mono ?_; rintro e w' ⟨rfl, hu⟩; have hsz1 := hu.size; (try simp at hsz1)) | (go_at_call_of 18 (Value.agg (cells 16 (limb (enc b)))); refine (HB.out _).mono ?_; rintro e w' ⟨rfl, hu⟩; have hsz2 := hu.size; (try simp at hsz2)))
        exact bodyPost_ret (res2 rfl undW infoW _ _ rfl (by (repeat (first | assumption | ((with_reducible apply row_newc); (focus (first | rfl | (simp; done)))) | ((with_reducible apply row_newz); (focus (first | rfl | (simp; done)))) | (with_reducible apply row_same) | ((with_reducible apply row_else); (focus (first | (simp; done) | (simp; omega) | omega))) | (with_reducible apply row_alloc) | (with_reducible apply row_drew) | (with_reducible apply row_drewN) | ((with_reducible apply row_up); assumption))))) rfl ⟨rfl, (by repeat (first | assumption | (with_reducible apply Up.of) | (with_reducible exact Below.refl _ _) | (with_reducible exact Up.refl _) | ((with_reducible apply bl_setRow); (focus (first | exact Nat.le_refl _ | (simp; done) | (simp; omega) | omega))) | (with_reducible apply below_drewN) | (with_reducible apply Below.drew) | ((with_reducible apply bl_alloc); (focus (first | exact Nat.le_refl _ | (simp; done) | (simp; omega) | omega))) | ((with_reducible apply bl_setCell); (focus (first | exact Nat.le_refl _ | (simp; done) | (simp; omega) | omega))) | ((with_reducible apply up_tr); assumption)))⟩
  · have hspec : roundV a b = .tuple #[.agg (cells 16 (fun _ => 0)), .bool false] := by
      unfold roundV
      rw [if_neg fun h => hb0 h.1]
    rw [hspec]
    have es : sgn b ≤ 0 := by
      unfold sgn
      split
      · decide
      · rw [if_pos (by omega)]; decide
    obtain ⟨sb, esb⟩ : ∃ sb, sgn b = sb := ⟨_, rfl⟩
    rw [esb] at HSB es
    clear hspec hDV esb hb0
    unfold wideV at *
    go_enter Try.func8, Try.ntmps8
    go_wp2_with (first | ((with_reducible apply ld_rowP undW infoW); exact rfl; exact rfl; focus (repeat (first | assumption | ((with_reducible apply row_newc); (focus (first | rfl | (simp; done)))) | ((with_reducible apply row_newz); (focus (first | rfl | (simp; done)))) | (with_reducible apply row_same) | ((with_reducible apply row_else); (focus (first | (simp; done) | (simp; omega) | omega))) | (with_reducible apply row_alloc) | (with_reducible apply row_drew) | (with_reducible apply row_drewN) | ((with_reducible apply row_up); assumption)))) | ((with_reducible apply st_rowP infoW); exact rfl; exact rfl; focus (repeat (first | assumption | ((with_reducible apply row_newc); (focus (first | rfl | (simp; done)))) | ((with_reducible apply row_newz); (focus (first | rfl | (simp; done)))) | (with_reducible apply row_same) | ((with_reducible apply row_else); (focus (first | (simp; done) | (simp; omega) | omega))) | (with_reducible apply row_alloc) | (with_reducible apply row_drew) | (with_reducible apply row_drewN) | ((with_reducible apply row_up); assumption)))) | ((with_reducible apply st_rowZ infoW); exact rfl; exact rfl; focus (repeat (first | assumption | ((with_reducible apply row_newc); (focus (first | rfl | (simp; done)))) | ((with_reducible apply row_newz); (focus (first | rfl | (simp; done)))) | (with_reducible apply row_same) | ((with_reducible apply row_else); (focus (first | (simp; done) | (simp; omega) | omega))) | (with_reducible apply row_alloc) | (with_reducible apply row_drew) | (with_reducible apply row_drewN) | ((with_reducible apply row_up); assumption)))) | (go_at_call 22; refine (HSB.out _).mono ?_; rintro e w' ⟨rfl, hu⟩))
    exact bodyPost_ret (res2 rfl undW infoW _ _ rfl (by (repeat (first | assumption | ((with_reducible apply row_newc); (focus (first | rfl | (simp; done)))) | ((with_reducible apply row_newz); (focus (first | rfl | (simp; done)))) | (with_reducible apply row_same) | ((with_reducible apply row_else); (focus (first | (simp; done) | (simp; omega) | omega))) | (with_reducible apply row_alloc) | (with_reducible apply row_drew) | (with_reducible apply row_drewN) | ((with_reducible apply row_up); assumption))))) rfl ⟨rfl, (by repeat (first | assumption | (with_reducible apply Up.of) | (with_reducible exact Below.refl _ _) | (with_reducible exact Up.refl _) | ((with_reducible apply bl_setRow); (focus (first | exact Nat.le_refl _ | (simp; done) | (simp; omega) | omega))) | (with_reducible apply below_drewN) | (with_reducible apply Below.drew) | ((with_reducible apply bl_alloc); (focus (first | exact Nat.le_refl _ | (simp; done) | (simp; omega) | omega))) | ((with_reducible apply bl_setCell); (focus (first | exact Nat.le_refl _ | (simp; done) | (simp; omega) | omega))) | ((with_reducible apply up_tr); assumption)))⟩
end Go.Proofs.Ytbogbdokllmanaa
/-
  known: the few numbers that the laws of layer 1 ask first.
-/
namespace Go.Proofs.Ytbogbdokllmanaa
open Go Go.RowKit
set_option maxRecDepth 100000

theorem op_eqS {o : Oper} {a : Act} {x y : Operand} {u : TypeId} (ho : o.op = .binOp .eql 27 x y u) {p : Nat} (hx : a.eval x = .agg (cells 16 (limb p))) (hy : a.eval y = .agg (cells 16 (limb p))) (hp : p < bp 16) (w : World) :
    (execOp a.eval o).run Try.prog w = .ok (.value (.bool true)) w := by
  have h := op_eqW ho hx hy hp hp w
  simpa using h
theorem small_in (v : Int) (h1 : -9223372036854775808 ≤ v) (h2 : v < 9223372036854775808) : InR v := InR.mk' (by have := hb_big; omega)
theorem one_limb {y : Nat} (h0 : y ≠ 0) (h : y < 18446744073709551616) : lenL (limb y) 16 = 1 := by
  refine lenL_of _ (by decide) (fun i h1 _ => ?_) (.inr ?_)
  · exact limb_of_small (k := 1) (by rw [bp_succ 0, bp_zero]; omega) h1
  · rw [Nat.sub_self, limb0, Nat.mod_eq_of_lt h]; exact h0
theorem small_lt {y : Nat} (h : y < 18446744073709551616) : y < bp 16 := by
  have h1 := bp16
  have h2 := hb_big
  omega

set_option maxRecDepth 100000 in
set_option maxHeartbeats 4000000 in
theorem known_true (w : World) : Calls Try.prog 4 #[] w fun e w' => e = .returned (.bool true) ∧ Up w w' := by
  have HO2 := hid (fun w => of_any (2) (by decide) (by decide) w)
  have HO3 := hid (fun w => of_any (3) (by decide) (by decide) w)
  have HOm2 := hid (fun w => of_any (-2) (by decide) (by decide) w)
  have HOm7 := hid (fun w => of_any (-7) (by decide) (by decide) w)
  have HO5 := hid (fun w => of_any (5) (by decide) (by decide) w)
  have HOm6 := hid (fun w => of_any (-6) (by decide) (by decide) w)
  have HOm3 := hid (fun w => of_any (-3) (by decide) (by decide) w)
  have HOm1 := hid (fun w => of_any (-1) (by decide) (by decide) w)
  have i5 := small_in (5) (by decide) (by decide)
  have l5 := enc_lt (5)
  have i2 := small_in (2) (by decide) (by decide)
  have l2 := enc_lt (2)
  have i3 := small_in (3) (by decide) (by decide)
  have l3 := enc_lt (3)
  have im2 := small_in (-2) (by decide) (by decide)
  have lm2 := enc_lt (-2)
  have im7 := small_in (-7) (by decide) (by decide)
  have lm7 := enc_lt (-7)
  have im6 := small_in (-6) (by decide) (by decide)
  have lm6 := enc_lt (-6)
  have im3 := small_in (-3) (by decide) (by decide)
  have lm3 := enc_lt (-3)
  have im1 := small_in (-1) (by decide) (by decide)
  have lm1 := enc_lt (-1)
  have hA := fun w => add_z i2 i3 w
  rw [show (2 : Int) + 3 = 5 from rfl, opt_yes i5] at hA
  have HA := hid hA
  have hM := fun w => mul_z im2 i3 w
  rw [show (-2 : Int) * 3 = -6 from rfl, opt_yes im6] at hM
  have HM := hid hM
  have hD := fun w => div_z im7 i2 (fun _ w => divide_one 7 2 (small_lt (by decide)) (small_lt (by decide)) (by decide) (one_limb (by decide) (by decide)) w) w
  rw [show divZV (-7) 2 = .tuple #[wideV (enc (-3)), wideV (enc (-1)), .bool true] from by
    unfold divZV
    rw [if_neg (fun h => h.elim (fun h => by simp at h) (fun h => h im3))]
    rfl] at hD
  have HD := hid hD
  have hR := fun w => round_z i5 i2 (fun _ _ _ _ w => divide_one 12 4 (small_lt (by decide)) (small_lt (by decide)) (by decide) (one_limb (by decide) (by decide)) w) w
  rw [show roundV 5 2 = .tuple #[wideV (enc 3), .bool true] from by
    unfold roundV
    rw [if_pos ⟨by decide, small_in _ (by decide) (by decide), small_in _ (by decide) (by decide), small_in _ (by decide) (by decide)⟩]
    rfl] at hR
  have HR := hid hR
  have hI := fun w => int64_z i5 w
  rw [show i64V 5 = .tuple #[.int .i64 5, .bool true] from rfl] at hI
  have HI := hid hI
  have hS := fun w => sign_z im6 w
  rw [show sgn (-6) = -1 from rfl] at hS
  have HS := hid hS
  have hB := fun w => bits_z im6 w
  rw [show ((blen (-6 : Int).natAbs : Nat) : Int) = 3 from by rw [show (-6 : Int).natAbs = 6 from rfl, blen_of (k := 2) (by decide) (by decide)]; rfl] at hB
  have HB := hid hB
  have hC := fun w => cmp_z i5 im6 w
  rw [show cmpZ 5 (-6) = 1 from rfl] at hC
  have HC := hid hC
  clear hA hM hD hR hI hS hB hC i5 i2 i3 im2 im7 im6 im3 im1
  generalize enc (5) = e5 at *
  generalize enc (2) = e2 at *
  generalize enc (3) = e3 at *
  generalize enc (-2) = em2 at *
  generalize enc (-7) = em7 at *
  generalize enc (-6) = em6 at *
  generalize enc (-3) = em3 at *
  generalize enc (-1) = em1 at *
  unfold wideV at *
  go_enter Try.func4, Try.ntmps4
  go_wp2_with (first | ((with_reducible apply ld_rowP undW infoW); exact rfl; exact rfl; focus (repeat (first | assumption | ((with_reducible apply row_newc); (focus (first | rfl | (simp; done)))) | ((with_reducible apply row_newz); (focus (first | rfl | (simp; done)))) | (with_reducible apply row_same) | ((with_reducible apply row_else); (focus (first | (simp; done) | (simp; omega) | omega))) | (with_reducible apply row_alloc) | (with_reducible apply row_drew) | (with_reducible apply row_drewN) | ((with_reducible apply row_up); assumption)))) | ((with_reducible apply st_rowP infoW); exact rfl; exact rfl; focus (repeat (first | assumption | ((with_reducible apply row_newc); (focus (first | rfl | (simp; done)))) | ((with_reducible apply row_newz); (focus (first | rfl | (simp; done)))) | (with_reducible apply row_same) | ((with_reducible apply row_else); (focus (first | (simp; done) | (simp; omega) | omega))) | (with_reducible apply row_alloc) | (with_reducible apply row_drew) | (with_reducible apply row_drewN) | ((with_reducible apply row_up); assumption)))) | ((with_reducible apply st_rowZ infoW); exact rfl; exact rfl; focus (repeat (first | assumption | ((with_reducible apply row_newc); (focus (first | rfl | (simp; done)))) | ((with_reducible apply row_newz); (focus (first | rfl | (simp; done)))) | (with_reducible apply row_same) | ((with_reducible apply row_else); (focus (first | (simp; done) | (simp; omega) | omega))) | (with_reducible apply row_alloc) | (with_reducible apply row_drew) | (with_reducible apply row_drewN) | ((with_reducible apply row_up); assumption)))) | (go_at_call 19; (first | (with_reducible refine (HO2.out _).mono ?_) | (with_reducible refine (HO3.out _).mono ?_) | (with_reducible refine (HOm2.out _).mono ?_) | (with_reducible refine (HOm7.out _).mono ?_) | (with_reducible refine (HO5.out _).mono ?_)); rintro e w' ⟨rfl, hu⟩; have hsz := hu.size; (try simp at hsz)) | (go_at_call 18; refine (HA.out _).mono ?_; rintro e wA ⟨rfl, hu⟩; have hsz := hu.size; (try simp at hsz)) | (go_at_call 20; refine (HM.out _).mono ?_; rintro e wM ⟨rfl, hu⟩; have hsz := hu.size; (try simp at hsz)) | (go_at_call 7; refine (HD.out _).mono ?_; rintro e wD ⟨rfl, hu⟩; have hsz := hu.size; (try simp at hsz)) | (go_at_call 8; refine (HR.out _).mono ?_; rintro e wR ⟨rfl, hu⟩; have hsz := hu.size; (try simp at hsz)) | (go_at_call 21; refine (HI.out _).mono ?_; rintro e wI ⟨rfl, hu⟩; have hsz := hu.size; (try simp at hsz)))
  refine wp_region_upH (S := (fun wq => Row wq wA.heap.size 27 16 (limb e5) ∧ Row wq wM.heap.size 27 16 (limb em6) ∧ Row wq wD.heap.size 27 16 (limb em3) ∧ Row wq (wD.heap.size + 1) 27 16 (limb em1) ∧ Row wq wR.heap.size 27 16 (limb e3) ∧ Below w.heap.size w wq)) (req := (fun _ => true)) (by kernel_rfl) (fun _ _ h hu => ⟨(h.1).up hu, (h.2.1).up hu, (h.2.2.1).up hu, (h.2.2.2.1).up hu, (h.2.2.2.2.1).up hu, below_up (h.2.2.2.2.2) hu⟩) ⟨(by (repeat (first | assumption | ((with_reducible apply row_newc); (focus (first | rfl | (simp; done)))) | ((with_reducible apply row_newz); (focus (first | rfl | (simp; done)))) | (with_reducible apply row_same) | ((with_reducible apply row_else); (focus (first | (simp; done) | (simp; omega) | omega))) | (with_reducible apply row_alloc) | (with_reducible apply row_drew) | (with_reducible apply row_drewN) | ((with_reducible apply row_up); assumption)))), (by (repeat (first | assumption | ((with_reducible apply row_newc); (focus (first | rfl | (simp; done)))) | ((with_reducible apply row_newz); (focus (first | rfl | (simp; done)))) | (with_reducible apply row_same) | ((with_reducible apply row_else); (focus (first | (simp; done) | (simp; omega) | omega))) | (with_reducible apply row_alloc) | (with_reducible apply row_drew) | (with_reducible apply row_drewN) | ((with_reducible apply row_up); assumption)))), (by (repeat (first | assumption | ((with_reducible apply row_newc); (focus (first | rfl | (simp; done)))) | ((with_reducible apply row_newz); (focus (first | rfl | (simp; done)))) | (with_reducible apply row_same) | ((with_reducible apply row_else); (focus (first | (simp; done) | (simp; omega) | omega))) | (with_reducible apply row_alloc) | (with_reducible apply row_drew) | (with_reducible apply row_drewN) | ((with_reducible apply row_up); assumption)))), (by (repeat (first | assumption | ((with_reducible apply row_newc); (focus (first | rfl | (simp; done)))) | ((with_reducible apply row_newz); (focus (first | rfl | (simp; done)))) | (with_reducible apply row_same) | ((with_reducible apply row_else); (focus (first | (simp; done) | (simp; omega) | omega))) | (with_reducible apply row_alloc) | (with_reducible apply row_drew) | (with_reducible apply row_drewN) | ((with_reducible apply row_up); assumption)))), (by (repeat (first | assumption | ((with_reducible apply row_newc); (focus (first | rfl | (simp; done)))) | ((with_reducible apply row_newz); (focus (first | rfl | (simp; done)))) | (with_reducible apply row_same) | ((with_reducible apply row_else); (focus (first | (simp; done) | (simp; omega) | omega))) | (with_reducible apply row_alloc) | (with_reducible apply row_drew) | (with_reducible apply row_drewN) | ((with_reducible apply row_up); assumption)))), (by repeat (first | assumption | (with_reducible apply Up.of) | (with_reducible exact Below.refl _ _) | (with_reducible exact Up.refl _) | ((with_reducible apply bl_setRow); (focus (first | exact Nat.le_refl _ | (simp; done) | (simp; omega) | omega))) | (with_reducible apply below_drewN) | (with_reducible apply Below.drew) | ((with_reducible apply bl_alloc); (focus (first | exact Nat.le_refl _ | (simp; done) | (simp; omega) | omega))) | ((with_reducible apply bl_setCell); (focus (first | exact Nat.le_refl _ | (simp; done) | (simp; omega) | omega))) | ((with_reducible apply up_tr); assumption)))⟩ (fun wS hSS hSu => ?_)
  have ⟨hS1, hS2, hS3, hS4, hS5, hSB⟩ := hSS
  refine wpAnyU_pure (i := 0) (d := (some 42)) (v := ?_) rfl rfl (by kernel_rfl) (fun _ _ _ h => h) hSu.out (Or.inl ⟨by rfl, fun w' _ => yu_value ?_⟩) ?_
  rotate_left
  · (go_simp; (try exact rfl))
  try simp only [Act.put, pu1, pu2, pu3]
  refine wpAnyU_pure (i := 1) (d := (some 43)) (v := ?_) rfl rfl (by kernel_rfl) (fun _ _ _ h => h) hSu.out (Or.inl ⟨by rfl, fun w' _ => yu_value ?_⟩) ?_
  rotate_left
  · (go_simp; (try exact rfl))
  try simp only [Act.put, pu1, pu2, pu3]
  refine wpAnyU_pure (i := 2) (d := (some 44)) (v := ?_) rfl rfl (by kernel_rfl) (fun _ _ _ h => h) hSu.out (Or.inl ⟨by rfl, fun w' _ => yu_value ?_⟩) ?_
  rotate_left
  · (go_simp; (try exact rfl))
  try simp only [Act.put, pu1, pu2, pu3]
  refine wpAnyU_pure (i := 3) (d := (some 45)) (v := ?_) rfl rfl (by kernel_rfl) (fun _ _ _ h => h) hSu.out (Or.inl ⟨by rfl, fun w' _ => yu_value ?_⟩) ?_
  rotate_left
  · (go_simp; (try exact rfl))
  try simp only [Act.put, pu1, pu2, pu3]
  refine wpAnyU_pure (i := 4) (d := (some 46)) (v := ?_) rfl rfl (by kernel_rfl) (fun _ _ _ h => h) hSu.out (Or.inl ⟨by rfl, fun w' _ => yu_value ?_⟩) ?_
  rotate_left
  · (go_simp; (try exact rfl))
  try simp only [Act.put, pu1, pu2, pu3]
  refine wpAnyU_pure (i := 5) (d := (some 47)) (v := ?_) rfl rfl (by kernel_rfl) (fun _ _ _ h => h) hSu.out (Or.inl ⟨by rfl, fun w' _ => yu_value ?_⟩) ?_
  rotate_left
  · (go_simp; (try exact rfl))
  try simp only [Act.put, pu1, pu2, pu3]
  refine wpAnyU_pure (i := 6) (d := (some 48)) (v := ?_) rfl rfl (by kernel_rfl) (fun _ _ _ h => h) hSu.out (Or.inl ⟨by rfl, fun w' _ => yu_value ?_⟩) ?_
  rotate_left
  · (go_simp; (try exact rfl))
  try simp only [Act.put, pu1, pu2, pu3]
  refine wpAnyU_pure (i := 7) (d := (some 49)) (v := ?_) rfl rfl (by kernel_rfl) (fun _ _ _ h => h) hSu.out (Or.inl ⟨by rfl, fun w' _ => yu_value ?_⟩) ?_
  rotate_left
  · (go_simp; (try exact rfl))
  try simp only [Act.put, pu1, pu2, pu3]
  refine wpAnyU_pure (i := 8) (d := (some 50)) (v := ?_) rfl rfl (by kernel_rfl) (fun _ _ _ h => h) hSu.out (Or.inl ⟨by rfl, fun w' _ => yu_value ?_⟩) ?_
  rotate_left
  · (go_simp; (try exact rfl))
  try simp only [Act.put, pu1, pu2, pu3]
  refine wpAnyU_pure (i := 9) (d := (some 51)) (v := ?_) rfl rfl (by kernel_rfl) (fun _ _ _ h => h) hSu.out (Or.inl ⟨by rfl, fun w' _ => yu_value ?_⟩) ?_
  rotate_left
  · (go_simp; (try exact rfl))
  try simp only [Act.put, pu1, pu2, pu3]
  refine wpAnyU_pure (i := 10) (d := (some 52)) (v := ?_) rfl rfl (by kernel_rfl) (fun _ _ _ h => h) hSu.out (Or.inl ⟨by rfl, fun w' _ => yu_value ?_⟩) ?_
  rotate_left
  · (go_simp; (try exact rfl))
  try simp only [Act.put, pu1, pu2, pu3]
  refine wpAnyU_pure (i := 11) (d := (some 53)) (v := ?_) rfl rfl (by kernel_rfl) (fun _ _ _ h => h) hSu.out (Or.inl ⟨by rfl, fun w' _ => yu_value ?_⟩) ?_
  rotate_left
  · (go_simp; (try exact rfl))
  try simp only [Act.put, pu1, pu2, pu3]
  refine wpAnyU_pure (i := 12) (d := (some 54)) (v := ?_) rfl rfl (by kernel_rfl) (fun _ _ _ h => h) hSu.out (Or.inl ⟨by rfl, fun w' _ => yu_value ?_⟩) ?_
  rotate_left
  · (go_simp; (try exact rfl))
  try simp only [Act.put, pu1, pu2, pu3]
  refine wpAnyU_pure (i := 13) (d := (some 55)) (v := ?_) rfl rfl (by kernel_rfl) (fun _ _ _ h => h) hSu.out (Or.inl ⟨by rfl, fun w' _ => yu_value ?_⟩) ?_
  rotate_left
  · (go_simp; (try exact rfl))
  try simp only [Act.put, pu1, pu2, pu3]
  refine wpAnyU_pure (i := 14) (d := (some 56)) (v := ?_) rfl rfl (by kernel_rfl) (fun _ _ _ h => h) hSu.out (Or.inl ⟨by rfl, fun w' _ => yu_value ?_⟩) ?_
  rotate_left
  · (go_simp; (try exact rfl))
  try simp only [Act.put, pu1, pu2, pu3]
  refine wpAnyU_pure (i := 15) (d := (some 57)) (v := ?_) rfl rfl (by kernel_rfl) (fun _ _ _ h => h) hSu.out (Or.inl ⟨by rfl, fun w' _ => yu_value ?_⟩) ?_
  rotate_left
  · (go_simp; (try exact rfl))
  try simp only [Act.put, pu1, pu2, pu3]
  refine wpAnyU_pure (i := 16) (d := (some 58)) (v := ?_) rfl rfl (by kernel_rfl) (fun _ _ _ h => h) hSu.out (Or.inl ⟨by rfl, fun w' _ => yu_value ?_⟩) ?_
  rotate_left
  · (go_simp; (try exact rfl))
  try simp only [Act.put, pu1, pu2, pu3]
  refine wpAnyU_pure (i := 17) (d := (some 59)) (v := ?_) rfl rfl (by kernel_rfl) (fun _ _ _ h => h) hSu.out (Or.inl ⟨by rfl, fun w' _ => yu_value ?_⟩) ?_
  rotate_left
  · (go_simp; (try exact rfl))
  try simp only [Act.put, pu1, pu2, pu3]
  refine wpAnyU_take (i := 18) (d := (some 60)) (v := _) rfl rfl (by kernel_rfl) (fun _ _ _ h => h) hSu.out hSS (Or.inl ⟨by rfl, fun w' hSw => yu_value (run_ld undW infoW _ rfl _ rfl hSw.2.1)⟩) ?_
  try simp only [Act.put, pu1, pu2, pu3]
  refine wpAnyU_take (i := 19) (d := (some 61)) (v := _) rfl rfl (by kernel_rfl) (fun _ _ _ h => h) hSu.out hSS (Or.inl ⟨by rfl, fun w' hSw => yu_call ?_ (HOm6.out _)⟩) ?_
  · go_simp
  try simp only [Act.put, pu1, pu2, pu3]
  refine wpAnyU_take (i := 20) (d := (some 62)) (v := _) rfl rfl (by kernel_rfl) (fun _ _ _ h => h) hSu.out hSS (Or.inl ⟨by rfl, fun w' hSw => yu_value (op_eqS rfl rfl rfl lm6 _)⟩) ?_
  try simp only [Act.put, pu1, pu2, pu3]
  refine wpAnyU_pure (i := 21) (d := (some 63)) (v := ?_) rfl rfl (by kernel_rfl) (fun _ _ _ h => h) hSu.out (Or.inl ⟨by rfl, fun w' _ => yu_value ?_⟩) ?_
  rotate_left
  · (go_simp; (try exact rfl))
  try simp only [Act.put, pu1, pu2, pu3]
  refine wpAnyU_pure (i := 22) (d := (some 64)) (v := ?_) rfl rfl (by kernel_rfl) (fun _ _ _ h => h) hSu.out (Or.inl ⟨by rfl, fun w' _ => yu_value ?_⟩) ?_
  rotate_left
  · (go_simp; (try exact rfl))
  try simp only [Act.put, pu1, pu2, pu3]
  refine wpAnyU_take (i := 23) (d := (some 65)) (v := _) rfl rfl (by kernel_rfl) (fun _ _ _ h => h) hSu.out hSS (Or.inl ⟨by rfl, fun w' hSw => yu_value (run_ld undW infoW _ rfl _ rfl hSw.2.2.1)⟩) ?_
  try simp only [Act.put, pu1, pu2, pu3]
  refine wpAnyU_take (i := 24) (d := (some 66)) (v := _) rfl rfl (by kernel_rfl) (fun _ _ _ h => h) hSu.out hSS (Or.inl ⟨by rfl, fun w' hSw => yu_call ?_ (HOm3.out _)⟩) ?_
  · go_simp
  try simp only [Act.put, pu1, pu2, pu3]
  refine wpAnyU_take (i := 25) (d := (some 67)) (v := _) rfl rfl (by kernel_rfl) (fun _ _ _ h => h) hSu.out hSS (Or.inl ⟨by rfl, fun w' hSw => yu_value (op_eqS rfl rfl rfl lm3 _)⟩) ?_
  try simp only [Act.put, pu1, pu2, pu3]
  refine wpAnyU_pure (i := 26) (d := (some 68)) (v := ?_) rfl rfl (by kernel_rfl) (fun _ _ _ h => h) hSu.out (Or.inl ⟨by rfl, fun w' _ => yu_value ?_⟩) ?_
  rotate_left
  · (go_simp; (try exact rfl))
  try simp only [Act.put, pu1, pu2, pu3]
  refine wpAnyU_pure (i := 27) (d := (some 69)) (v := ?_) rfl rfl (by kernel_rfl) (fun _ _ _ h => h) hSu.out (Or.inl ⟨by rfl, fun w' _ => yu_value ?_⟩) ?_
  rotate_left
  · (go_simp; (try exact rfl))
  try simp only [Act.put, pu1, pu2, pu3]
  refine wpAnyU_take (i := 28) (d := (some 70)) (v := _) rfl rfl (by kernel_rfl) (fun _ _ _ h => h) hSu.out hSS (Or.inl ⟨by rfl, fun w' hSw => yu_value (run_ld undW infoW _ rfl _ rfl hSw.2.2.2.1)⟩) ?_
  try simp only [Act.put, pu1, pu2, pu3]
  refine wpAnyU_take (i := 29) (d := (some 71)) (v := _) rfl rfl (by kernel_rfl) (fun _ _ _ h => h) hSu.out hSS (Or.inl ⟨by rfl, fun w' hSw => yu_call ?_ (HOm1.out _)⟩) ?_
  · go_simp
  try simp only [Act.put, pu1, pu2, pu3]
  refine wpAnyU_take (i := 30) (d := (some 72)) (v := _) rfl rfl (by kernel_rfl) (fun _ _ _ h => h) hSu.out hSS (Or.inl ⟨by rfl, fun w' hSw => yu_value (op_eqS rfl rfl rfl lm1 _)⟩) ?_
  try simp only [Act.put, pu1, pu2, pu3]
  refine wpAnyU_pure (i := 31) (d := (some 73)) (v := ?_) rfl rfl (by kernel_rfl) (fun _ _ _ h => h) hSu.out (Or.inl ⟨by rfl, fun w' _ => yu_value ?_⟩) ?_
  rotate_left
  · (go_simp; (try exact rfl))
  try simp only [Act.put, pu1, pu2, pu3]
  refine wpAnyU_pure (i := 32) (d := (some 74)) (v := ?_) rfl rfl (by kernel_rfl) (fun _ _ _ h => h) hSu.out (Or.inl ⟨by rfl, fun w' _ => yu_value ?_⟩) ?_
  rotate_left
  · (go_simp; (try exact rfl))
  try simp only [Act.put, pu1, pu2, pu3]
  refine wpAnyU_take (i := 33) (d := (some 75)) (v := _) rfl rfl (by kernel_rfl) (fun _ _ _ h => h) hSu.out hSS (Or.inl ⟨by rfl, fun w' hSw => yu_value (run_ld undW infoW _ rfl _ rfl hSw.2.2.2.2.1)⟩) ?_
  try simp only [Act.put, pu1, pu2, pu3]
  refine wpAnyU_take (i := 34) (d := (some 76)) (v := _) rfl rfl (by kernel_rfl) (fun _ _ _ h => h) hSu.out hSS (Or.inl ⟨by rfl, fun w' hSw => yu_call ?_ (HO3.out _)⟩) ?_
  · go_simp
  try simp only [Act.put, pu1, pu2, pu3]
  refine wpAnyU_take (i := 35) (d := (some 77)) (v := _) rfl rfl (by kernel_rfl) (fun _ _ _ h => h) hSu.out hSS (Or.inl ⟨by rfl, fun w' hSw => yu_value (op_eqS rfl rfl rfl l3 _)⟩) ?_
  try simp only [Act.put, pu1, pu2, pu3]
  refine wpAnyU_pure (i := 36) (d := (some 78)) (v := ?_) rfl rfl (by kernel_rfl) (fun _ _ _ h => h) hSu.out (Or.inl ⟨by rfl, fun w' _ => yu_value ?_⟩) ?_
  rotate_left
  · (go_simp; (try exact rfl))
  try simp only [Act.put, pu1, pu2, pu3]
  refine wpAnyU_pure (i := 37) (d := (some 79)) (v := ?_) rfl rfl (by kernel_rfl) (fun _ _ _ h => h) hSu.out (Or.inl ⟨by rfl, fun w' _ => yu_value ?_⟩) ?_
  rotate_left
  · (go_simp; (try exact rfl))
  try simp only [Act.put, pu1, pu2, pu3]
  refine wpAnyU_take (i := 38) (d := (some 80)) (v := _) rfl rfl (by kernel_rfl) (fun _ _ _ h => h) hSu.out hSS (Or.inl ⟨by rfl, fun w' hSw => yu_value (run_ld undW infoW _ rfl _ rfl hSw.2.1)⟩) ?_
  try simp only [Act.put, pu1, pu2, pu3]
  refine wpAnyU_take (i := 39) (d := (some 81)) (v := _) rfl rfl (by kernel_rfl) (fun _ _ _ h => h) hSu.out hSS (Or.inl ⟨by rfl, fun w' hSw => yu_call ?_ (HS.out _)⟩) ?_
  · go_simp
  try simp only [Act.put, pu1, pu2, pu3]
  refine wpAnyU_pure (i := 40) (d := (some 82)) (v := ?_) rfl rfl (by kernel_rfl) (fun _ _ _ h => h) hSu.out (Or.inl ⟨by rfl, fun w' _ => yu_value ?_⟩) ?_
  rotate_left
  · (go_simp; (try exact rfl))
  try simp only [Act.put, pu1, pu2, pu3]
  refine wpAnyU_pure (i := 41) (d := (some 83)) (v := ?_) rfl rfl (by kernel_rfl) (fun _ _ _ h => h) hSu.out (Or.inl ⟨by rfl, fun w' _ => yu_value ?_⟩) ?_
  rotate_left
  · (go_simp; (try exact rfl))
  try simp only [Act.put, pu1, pu2, pu3]
  refine wpAnyU_pure (i := 42) (d := (some 84)) (v := ?_) rfl rfl (by kernel_rfl) (fun _ _ _ h => h) hSu.out (Or.inl ⟨by rfl, fun w' _ => yu_value ?_⟩) ?_
  rotate_left
  · (go_simp; (try exact rfl))
  try simp only [Act.put, pu1, pu2, pu3]
  refine wpAnyU_take (i := 43) (d := (some 85)) (v := _) rfl rfl (by kernel_rfl) (fun _ _ _ h => h) hSu.out hSS (Or.inl ⟨by rfl, fun w' hSw => yu_value (run_ld undW infoW _ rfl _ rfl hSw.2.1)⟩) ?_
  try simp only [Act.put, pu1, pu2, pu3]
  refine wpAnyU_take (i := 44) (d := (some 86)) (v := _) rfl rfl (by kernel_rfl) (fun _ _ _ h => h) hSu.out hSS (Or.inl ⟨by rfl, fun w' hSw => yu_call ?_ (HB.out _)⟩) ?_
  · go_simp
  try simp only [Act.put, pu1, pu2, pu3]
  refine wpAnyU_pure (i := 45) (d := (some 87)) (v := ?_) rfl rfl (by kernel_rfl) (fun _ _ _ h => h) hSu.out (Or.inl ⟨by rfl, fun w' _ => yu_value ?_⟩) ?_
  rotate_left
  · (go_simp; (try exact rfl))
  try simp only [Act.put, pu1, pu2, pu3]
  refine wpAnyU_pure (i := 46) (d := (some 88)) (v := ?_) rfl rfl (by kernel_rfl) (fun _ _ _ h => h) hSu.out (Or.inl ⟨by rfl, fun w' _ => yu_value ?_⟩) ?_
  rotate_left
  · (go_simp; (try exact rfl))
  try simp only [Act.put, pu1, pu2, pu3]
  refine wpAnyU_pure (i := 47) (d := (some 89)) (v := ?_) rfl rfl (by kernel_rfl) (fun _ _ _ h => h) hSu.out (Or.inl ⟨by rfl, fun w' _ => yu_value ?_⟩) ?_
  rotate_left
  · (go_simp; (try exact rfl))
  try simp only [Act.put, pu1, pu2, pu3]
  refine wpAnyU_take (i := 48) (d := (some 90)) (v := _) rfl rfl (by kernel_rfl) (fun _ _ _ h => h) hSu.out hSS (Or.inl ⟨by rfl, fun w' hSw => yu_value (run_ld undW infoW _ rfl _ rfl hSw.1)⟩) ?_
  try simp only [Act.put, pu1, pu2, pu3]
  refine wpAnyU_take (i := 49) (d := (some 91)) (v := _) rfl rfl (by kernel_rfl) (fun _ _ _ h => h) hSu.out hSS (Or.inl ⟨by rfl, fun w' hSw => yu_value (run_ld undW infoW _ rfl _ rfl hSw.2.1)⟩) ?_
  try simp only [Act.put, pu1, pu2, pu3]
  refine wpAnyU_take (i := 50) (d := (some 92)) (v := _) rfl rfl (by kernel_rfl) (fun _ _ _ h => h) hSu.out hSS (Or.inl ⟨by rfl, fun w' hSw => yu_call ?_ (HC.out _)⟩) ?_
  · go_simp
  try simp only [Act.put, pu1, pu2, pu3]
  refine wpAnyU_pure (i := 51) (d := (some 93)) (v := ?_) rfl rfl (by kernel_rfl) (fun _ _ _ h => h) hSu.out (Or.inl ⟨by rfl, fun w' _ => yu_value ?_⟩) ?_
  rotate_left
  · (go_simp; (try exact rfl))
  try simp only [Act.put, pu1, pu2, pu3]
  refine wpAnyU_pure (i := 52) (d := (some 94)) (v := ?_) rfl rfl (by kernel_rfl) (fun _ _ _ h => h) hSu.out (Or.inl ⟨by rfl, fun w' _ => yu_value ?_⟩) ?_
  rotate_left
  · (go_simp; (try exact rfl))
  try simp only [Act.put, pu1, pu2, pu3]
  refine wpAnyU_pure (i := 53) (d := (some 0)) (v := ?_) rfl rfl (by kernel_rfl) (fun _ _ _ h => h) hSu.out (Or.inl ⟨by rfl, fun w' _ => yu_value ?_⟩) ?_
  rotate_left
  · (go_simp; (try exact rfl))
  try simp only [Act.put, pu1, pu2]
  refine wpAnyU_done (by kernel_rfl) (fun wE huE => ?_) _
  have ⟨hS1, hS2, hS3, hS4, hS5, hSB⟩ := hSu.out _ _ hSS huE
  clear huE hSS
  go_wp2
  go_ret
  exact ⟨rfl, hSB⟩
end Go.Proofs.Ytbogbdokllmanaa
/-
  Powers of two, their limbs and bits; the end of a law's proof where the world only grew below a height.
-/
namespace Go.Proofs.Ytbogbdokllmanaa
open Go Go.RowKit Go.ChangeShapes

theorem limb_pow (i k : Nat) : limb (2 ^ i) k = if k = i / 64 then 2 ^ (i % 64) else 0 := by
  unfold limb
  rw [bp_two]
  by_cases h : k = i / 64
  · rw [if_pos h, Nat.pow_div (by omega) (by decide), show i - 64 * k = i % 64 by omega]
    refine Nat.mod_eq_of_lt ?_
    have : 2 ^ (i % 64) < 2 ^ 64 := Nat.pow_lt_pow_right (by decide) (by omega)
    exact this
  · rw [if_neg h]
    by_cases h2 : 64 * k ≤ i
    · rw [Nat.pow_div h2 (by decide), show i - 64 * k = (i - 64 * k - 64) + 64 by omega, Nat.pow_add]
      exact Nat.mul_mod_left (2 ^ (i - 64 * k - 64)) (2 ^ 64)
    · rw [Nat.div_eq_of_lt (Nat.pow_lt_pow_right (by decide) (by omega))]
theorem hb_pow (i : Nat) (h : i = 1023) : hb = 2 ^ i := by
  have h1 := bp16
  rw [bp_two, show 64 * 16 = i + 1 by omega, Nat.pow_succ] at h1
  omega
theorem zeros_get (k : Nat) (_ : k < 16) : limb hb k = upd (fun _ => 0) 15 9223372036854775808 k := by
  obtain ⟨c, hc⟩ : ∃ c, c = 1023 := ⟨_, rfl⟩
  rw [hb_pow c hc, limb_pow]
  subst hc
  unfold upd
  rfl

section
variable {H : Type} {enc : TypeId × Value → H} {P : Program}
end
end Go.Proofs.Ytbogbdokllmanaa
/-
  The reference's amounts: slices of limbs without noughts behind.
-/
namespace Go.Proofs.Ytbogbdokllmanaa
open Go Go.RowKit
set_option maxRecDepth 100000

/-! ### How many limbs a number has -/
theorem lt_bp_self (x : Nat) : x < bp x := by
  induction x with
  | zero => rw [bp_zero]; omega
  | succ n ih => rw [bp_succ]; omega
def nl (x : Nat) : Nat := lenL (limb x) x
theorem sum_len {x N : Nat} (h : x < bp N) : sumL (limb x) (lenL (limb x) N) = x := by
  rw [lenL_sum, sumL_limb, Nat.mod_eq_of_lt h]
theorem lt_bp_len {x N : Nat} (h : x < bp N) : x < bp (lenL (limb x) N) := by
  have h1 := sum_len h
  have h2 := sumL_lt (f := limb x) (k := lenL (limb x) N) fun i _ => limb_lt x i
  omega
theorem nl_eq {x N : Nat} (h : x < bp N) : lenL (limb x) N = nl x := by
  have h1 := lt_bp_len h
  have h2 := lenL_top (limb x) N
  have hle : lenL (limb x) N ≤ x ∨ lenL (limb x) N = 0 := by
    rcases Nat.eq_zero_or_pos (lenL (limb x) N) with h0 | h0
    · exact .inr h0
    · have h3 := bp_le_of_len (limb x) N h0
      rw [sumL_limb, Nat.mod_eq_of_lt h] at h3
      have h4 := lt_bp_self (lenL (limb x) N - 1)
      exact .inl (by omega)
  refine (lenL_of (limb x) (by omega) (fun i hi _ => limb_of_small h1 hi) ?_).symm
  rcases Nat.eq_zero_or_pos (lenL (limb x) N) with h0 | h0
  · exact .inl h0
  · exact .inr (h2 h0)
theorem lt_bp_nl (x : Nat) : x < bp (nl x) := lt_bp_len (lt_bp_self x)
theorem bp_le_nl {x : Nat} (h : 0 < nl x) : bp (nl x - 1) ≤ x := by
  have h3 := bp_le_of_len (limb x) x h
  rw [sumL_limb, Nat.mod_eq_of_lt (lt_bp_self x)] at h3
  exact h3
theorem nl_le {x k : Nat} (h : x < bp k) : nl x ≤ k := by rw [← nl_eq h]; exact lenL_le _ _
theorem nl_zero : nl 0 = 0 := rfl
theorem nl_pos {x : Nat} (h : 0 < x) : 0 < nl x := by
  rcases Nat.eq_zero_or_pos (nl x) with h0 | h0
  · have := lt_bp_nl x
    rw [h0, bp_zero] at this
    omega
  · exact h0
theorem nl_pos_iff {x : Nat} : 0 < nl x ↔ 0 < x := by
  constructor
  · intro h
    rcases Nat.eq_zero_or_pos x with h0 | h0
    · subst h0; simp [nl_zero] at h
    · exact h0
  · exact nl_pos
theorem limb_nl {x i : Nat} (h : nl x ≤ i) : limb x i = 0 := limb_of_small (lt_bp_nl x) h
theorem sum_nl (x : Nat) : sumL (limb x) (nl x) = x := sum_len (lt_bp_self x)
theorem nl_sum {S : Nat → Nat} {n : Nat} (hS : ∀ i, i < n → S i < 18446744073709551616) : nl (sumL S n) = lenL S n := by
  rw [← nl_eq (sumL_lt hS)]
  exact lenL_congr fun i hi => limb_sumL hS hi

/-! ### An amount in memory -/
def Am (w : World) (v : Value) (x : Nat) : Prop :=
  ∃ a c, v = .slice a (nl x) c ∧ nl x ≤ c ∧ (0 < nl x → ∃ b C, a = some ⟨b, 0, none⟩ ∧ Blk w b 25 C ∧ ∀ i, i < nl x → C[i]? = some (.int .u64 (limb x i : Nat)))
theorem Am.up {w w' : World} {v : Value} {x : Nat} (h : Am w v x) (hu : Up w w') : Am w' v x := by
  obtain ⟨a, c, h1, h2, h3⟩ := h
  refine ⟨a, c, h1, h2, fun h0 => ?_⟩
  obtain ⟨b, C, h4, h6, h7⟩ := h3 h0
  exact ⟨b, C, h4, h6.up hu, h7⟩
/-- As a walk wants it: the slice, and its cells in every world that stands above. -/
theorem Am.open {w : World} {v : Value} {x : Nat} (h : Am w v x) : ∃ a c, v = .slice a (nl x) c ∧ nl x ≤ c ∧
    ∀ i, i < nl x → ∃ b, a = some ⟨b, 0, none⟩ ∧ b < w.heap.size ∧ ∀ w', Up w w' → w'.cell? ⟨b, i, none⟩ = some (.int .u64 (limb x i : Nat)) := by
  obtain ⟨a, c, h1, h2, h3⟩ := h
  refine ⟨a, c, h1, h2, fun i hi => ?_⟩
  obtain ⟨b, C, h4, h6, h7⟩ := h3 (by omega)
  exact ⟨b, h4, h6.lt, fun w' hu => (h6.up hu).cell i (h7 i hi)⟩
theorem am_nil (w : World) : Am w (.slice none 0 0) 0 := ⟨none, 0, by rw [nl_zero], by rw [nl_zero]; exact Nat.le_refl _, fun h => by rw [nl_zero] at h; omega⟩
theorem am_blk {w : World} {b n c : Nat} {S : Nat → Nat} {C : Array Value} (hB : Blk w b 25 C) (hC : ∀ i, i < n → C[i]? = some (.int .u64 (S i : Nat))) (hc : n ≤ c) (hS : ∀ i, i < n → S i < 18446744073709551616) :
    Am w (.slice (some ⟨b, 0, none⟩) (lenL S n) c) (sumL S n) := by
  have h1 := lenL_le S n
  refine ⟨_, c, by rw [nl_sum hS], by rw [nl_sum hS]; omega, fun _ => ⟨b, C, rfl, hB, fun i hi => ?_⟩⟩
  rw [nl_sum hS] at hi
  rw [limb_sumL hS (by omega)]
  exact hC i (by omega)
theorem am_row {w : World} {b n N c : Nat} {S : Nat → Nat} (hR : Row w b 25 N S) (hN : n ≤ N) (hc : n ≤ c) (hS : ∀ i, i < n → S i < 18446744073709551616) :
    Am w (.slice (some ⟨b, 0, none⟩) (lenL S n) c) (sumL S n) := am_blk hR (fun i hi => cells_get N S i (by omega)) hc hS
def slen : Value → Nat
  | .slice _ n _ => n
  | _ => 0
set_option maxHeartbeats 400000 in
theorem trim_cells (b n c : Nat) (S : Nat → Nat) (w : World) (hR : ∀ i, i < n → w.cell? ⟨b, i, none⟩ = some (.int .u64 (S i : Nat))) (hc : n ≤ c) (hn : n < 1000000) :
    Calls Try.prog 27 #[.slice (some ⟨b, 0, none⟩) n c] w fun e w' => e = .returned (.slice (some ⟨b, 0, none⟩) (lenL S n) c) ∧ Up w w' := by
  go_enter Try.func27, Try.ntmps27
  go_wp2
  go_loopw [0] (fun t wr => ∃ k : Nat, k ≤ n ∧ t = .slice (some ⟨b, 0, none⟩) k c ∧ lenL S k = lenL S n ∧ wr = w) (fun t _ => slen t)
  case atStart => exact ⟨n, Nat.le_refl _, rfl, rfl, rfl⟩
  case round =>
    obtain ⟨k, hk, rfl, hl, rfl⟩ := hrel
    by_cases h0 : 0 < k
    · obtain ⟨j, rfl⟩ : ∃ j, k = j + 1 := ⟨k - 1, by omega⟩
      have hcx := hR j (by omega)
      have hstep := lenL_succ S j
      have hjc : (j : Int) ≤ c := by omega
      generalize S j = s at *
      by_cases hs : s = 0
      · subst hs
        rw [if_pos rfl] at hstep
        have HL := hid (hstep.symm.trans hl)
        clear hstep hl
        go_wp2
        go_roundw
        case rel => exact ⟨j, by omega, rfl, HL.out, trivial⟩
        case measure => simp [slen]
      · rw [if_neg hs] at hstep
        have HL := hid (hstep.symm.trans hl)
        have hb : ((s : Int) == 0) = false := by simpa using hs
        clear hstep hl hs
        go_wp2
        go_ret
        exact ⟨by rw [← HL.out]; rfl, (by repeat (first | assumption | (with_reducible apply Up.of) | (with_reducible exact Below.refl _ _) | (with_reducible exact Up.refl _) | ((with_reducible apply bl_setRow); (focus (first | exact Nat.le_refl _ | (simp; done) | (simp; omega) | omega))) | (with_reducible apply below_drewN) | (with_reducible apply Below.drew) | ((with_reducible apply bl_alloc); (focus (first | exact Nat.le_refl _ | (simp; done) | (simp; omega) | omega))) | ((with_reducible apply bl_setCell); (focus (first | exact Nat.le_refl _ | (simp; done) | (simp; omega) | omega))) | ((with_reducible apply up_tr); assumption)))⟩
    · obtain rfl : k = 0 := by omega
      have HL := hid hl
      clear hl
      go_wp2
      go_ret
      exact ⟨by rw [← HL.out]; rfl, (by repeat (first | assumption | (with_reducible apply Up.of) | (with_reducible exact Below.refl _ _) | (with_reducible exact Up.refl _) | ((with_reducible apply bl_setRow); (focus (first | exact Nat.le_refl _ | (simp; done) | (simp; omega) | omega))) | (with_reducible apply below_drewN) | (with_reducible apply Below.drew) | ((with_reducible apply bl_alloc); (focus (first | exact Nat.le_refl _ | (simp; done) | (simp; omega) | omega))) | ((with_reducible apply bl_setCell); (focus (first | exact Nat.le_refl _ | (simp; done) | (simp; omega) | omega))) | ((with_reducible apply up_tr); assumption)))⟩
theorem trim_row (b n N c : Nat) (S : Nat → Nat) (w : World) (hR : Row w b 25 N S) (hN : n ≤ N) (hc : n ≤ c) (hn : n < 1000000) :
    Calls Try.prog 27 #[.slice (some ⟨b, 0, none⟩) n c] w fun e w' => e = .returned (.slice (some ⟨b, 0, none⟩) (lenL S n) c) ∧ Up w w' :=
  trim_cells b n c S w (fun i hi => hR.cell i (by omega)) hc hn
end Go.Proofs.Ytbogbdokllmanaa
/-
  The reference's sums and differences of amounts.
-/
namespace Go.Proofs.Ytbogbdokllmanaa
open Go Go.RowKit
set_option maxRecDepth 100000

theorem undS : Try.prog.underlying 22 = some (.slice 25) := by kernel_rfl
theorem infoU : (Try.prog.info? 25).map (fun i => (i.zero, i.size, i.bytes)) = some (some (.int .u64 0), 1, 8) := by kernel_rfl
theorem zeros_made (n : Nat) : madeCells (Value.int .u64 0).cells n = cells n (fun _ => 0) := by
  unfold cells
  apply Array.ext
  · simp [madeCells]
  · intro i h1 h2
    simp [madeCells, Value.cells, Nat.mod_one]
theorem mkP {ops : Array Oper} {rest : List Oper} {Q : Exit → Act → World → Prop} {a : Act} {w : World} {d : Option Tmp} {l : Tmp} {ty : TypeId} {pos : String} {af : Array Edge} {L : Int} {n : Nat} (hl : a.eval (.tmp l) = .int .i64 L) (hL : L = (n : Int)) (hn : n < 1000000)
    (h : wpList Try.prog ops Q rest (a.put d (.slice (some ⟨w.heap.size, 0, none⟩) n n)) (w.alloc (.cells (cells n (fun _ => 0)) 25))) :
    wpList Try.prog ops Q ({ dst := d, op := .makeSlice 22 (.tmp l) (.tmp l), type := ty, pos := pos, after := af, guard := none } :: rest) a w := by
  refine wpList_plain rfl fun _ hK => ?_
  have hi := infoU
  cases hq : Try.prog.info? 25 with
  | none => rw [hq] at hi; simp at hi
  | some i =>
    rw [hq] at hi
    simp only [Option.map_some, Option.some.injEq, Prod.mk.injEq] at hi
    have hr := run_make (P := Try.prog) (w := w) 22 25 i (.int .u64 0) undS hq hi.1 .i64 .i64 L L (by omega) (by omega) (by rw [hi.2.2]; omega) (by omega)
    rw [hi.2.1, Nat.mul_one, hL, Int.toNat_natCast, zeros_made] at hr
    unfold Oper.wp execOp
    simp only [hl, hL, Sem.run_bind, Sem.run_pure, Result.andThen_ok, hr]
    exact hK _ _ h
theorem plus_end {S : Nat → Nat} {x y k c : Nat} (_ : ∀ j, j < k + 1 → S j < 18446744073709551616) (hx : nl x ≤ k) (hy : nl y ≤ k) (h : sumL S (k + 1) + c * bp (k + 1) = sumL (limb x) (k + 1) + sumL (limb y) (k + 1)) : sumL S (k + 1) = x + y := by
  have h1 := bp_mono hx
  have h2 := bp_mono hy
  have h3 := lt_bp_nl x
  have h4 := lt_bp_nl y
  have h5 := bp_succ k
  rw [sumL_limb, sumL_limb, Nat.mod_eq_of_lt (show x < bp (k + 1) by omega), Nat.mod_eq_of_lt (show y < bp (k + 1) by omega)] at h
  rcases Nat.eq_zero_or_pos c with h0 | h0
  · subst h0; omega
  · have : 1 * bp (k + 1) ≤ c * bp (k + 1) := Nat.mul_le_mul_right _ h0
    omega
theorem minus_end {S : Nat → Nat} {x y k c : Nat} (hS : ∀ j, j < k → S j < 18446744073709551616) (hx : nl x ≤ k) (hxy : y ≤ x) (h : sumL S k + sumL (limb y) k = sumL (limb x) k + c * bp k) : sumL S k = x - y := by
  have h1 := bp_mono hx
  have h3 := lt_bp_nl x
  have h5 := sumL_lt hS
  rw [sumL_limb, sumL_limb, Nat.mod_eq_of_lt (show x < bp k by omega), Nat.mod_eq_of_lt (show y < bp k by omega)] at h
  rcases Nat.eq_zero_or_pos c with h0 | h0
  · subst h0; omega
  · have : 1 * bp k ≤ c * bp k := Nat.mul_le_mul_right _ h0
    omega
theorem padd_step {S : Nat → Nat} {X Y A B c r c' i : Nat} (h : sumL S i + c * bp i = A + B) (hr : r + c' * 18446744073709551616 = X + Y + c) : sumL (upd S i r) (i + 1) + c' * bp (i + 1) = A + X * bp i + (B + Y * bp i) := by
  rw [sumL_upd_succ, bp_succ]
  have h2 : (r + c' * 18446744073709551616) * bp i = (X + Y + c) * bp i := by rw [hr]
  have h3 : r * bp i + c' * (bp i * 18446744073709551616) = X * bp i + Y * bp i + c * bp i := by grind
  omega
theorem psub_step {S : Nat → Nat} {X Y A B c r c' i : Nat} (h : sumL S i + B = A + c * bp i) (hr : r + Y + c = X + c' * 18446744073709551616) : sumL (upd S i r) (i + 1) + (B + Y * bp i) = A + X * bp i + c' * bp (i + 1) := by
  rw [sumL_upd_succ, bp_succ]
  have h2 : (r + Y + c) * bp i = (X + c' * 18446744073709551616) * bp i := by rw [hr]
  have h3 : r * bp i + Y * bp i + c * bp i = X * bp i + c' * (bp i * 18446744073709551616) := by grind
  omega
set_option maxHeartbeats 1000000 in
theorem plus_am {x y : Nat} {va vb : Value} {w : World} (ha : Am w va x) (hb : Am w vb y) (hx : nl x < 100000) (hy : nl y < 100000) :
    Calls Try.prog 39 #[va, vb] w fun e w' => Up w w' ∧ ∃ v, e = .returned v ∧ Am w' v (x + y) := by
  obtain ⟨a, ca, rfl, hca1, hca0⟩ := ha.open
  obtain ⟨b, cb, rfl, hcb1, hcb0⟩ := hb.open
  obtain ⟨k, hk, hk1, hk2, hk3⟩ : ∃ k : Nat, max ((nl x : Nat) : Int) (nl y : Nat) = (k : Nat) ∧ nl x ≤ k ∧ nl y ≤ k ∧ k < 100000 := ⟨max (nl x) (nl y), by omega, by omega, by omega, by omega⟩
  clear ha hb
  go_enter Try.func39, Try.ntmps39
  go_wp2_with (first | ((with_reducible apply mkP (n := k + 1)); exact rfl; (first | rfl | omega); omega))
  go_loopw [7, 8] (fun tc ti wr => ∃ (i cc : Nat) (S : Nat → Nat), i ≤ k + 1 ∧ tc = .int .u64 (cc : Nat) ∧ ti = .int .i64 (i : Nat) ∧ cc ≤ 1 ∧ (∀ j, j < k + 1 → S j < 18446744073709551616) ∧ sumL S i + cc * bp i = sumL (limb x) i + sumL (limb y) i ∧ Row wr w.heap.size 25 (k + 1) S ∧ Below w.heap.size w wr)
    (fun _ ti _ => k + 1 - (intOf ti).toNat)
  case atStart => exact ⟨0, 0, fun _ => 0, by omega, rfl, rfl, by omega, fun _ _ => by simp, by simp [sumL_zero], row_newc _ _ _ rfl, (by repeat (first | assumption | (with_reducible apply Up.of) | (with_reducible exact Below.refl _ _) | ((with_reducible apply bl_setCell); (focus (first | exact Nat.le_refl _ | (simp; done) | (simp; omega) | omega))) | ((with_reducible apply bl_alloc); (focus (first | exact Nat.le_refl _ | (simp; done) | (simp; omega) | omega)))))⟩
  case round =>
    obtain ⟨i, cc, S, hi, rfl, rfl, hcc, hSb, hsum, hS, hB⟩ := hrel
    have HSb := hid hSb
    have Hsum := hid hsum
    clear hSb hsum
    by_cases hlt : i < k + 1
    · by_cases hp : i < nl x
      · by_cases hq : i < nl y
        · have h_ := hp
          obtain ⟨ba, rfl, hba, hca⟩ := hca0 i hp
          have hcx := hca wr hB
          obtain ⟨bb, rfl, hbb, hcb⟩ := hcb0 i hq
          have hcy := hcb wr hB
          obtain ⟨r, c', hadd, hrc, hrl, hc1⟩ : ∃ r c' : Nat, (∀ w, (callFunc 28 #[.int .u64 (limb x i : Nat), .int .u64 (limb y i : Nat), .int .u64 (cc : Nat)]).run Try.prog w = .ok (.value (.tuple #[.int .u64 (r : Nat), .int .u64 (c' : Nat)])) w) ∧ Hid (r + c' * 18446744073709551616 = limb x i + limb y i + cc) ∧ r < 18446744073709551616 ∧ c' ≤ 1 := by
            have hl1 := limb_lt x i
            have hl2 := limb_lt y i
            have h := run_add (limb x i) (limb y i) cc (by omega)
            exact ⟨_, _, h, hid (by omega), Nat.mod_lt _ (by decide), by omega⟩
          have hcs := hS.cell i (by omega)
          have hfs := hS.frozen i
          have gS := hS.set i r
          have gB := hB.setCell (p := ⟨w.heap.size, i, none⟩) (Nat.le_refl _) (.int .u64 (r : Nat))
          have hip : (decide ((i : Int) < (nl x : Nat))) = true := decide_eq_true (by omega)
          have hiq : decide ((i : Int) < (nl y : Nat)) = true := decide_eq_true (by omega)
          clear hB hS
          go_wp2
          go_roundw
          case rel =>
            refine ⟨i + 1, c', upd S i r, by omega, rfl, by go_num, hc1, upd_lt HSb.out hrl, ?_, gS, gB⟩
            rw [sumL_succ (limb x) i, sumL_succ (limb y) i]
            exact padd_step Hsum.out hrc.out
          case measure => simp [intOf] <;> omega
        · have h_ := hp
          obtain ⟨ba, rfl, hba, hca⟩ := hca0 i hp
          have hcx := hca wr hB
          have hzy := limb_nl (x := y) (i := i) (by omega)
          obtain ⟨r, c', hadd, hrc, hrl, hc1⟩ : ∃ r c' : Nat, (∀ w, (callFunc 28 #[.int .u64 (limb x i : Nat), .int .u64 0, .int .u64 (cc : Nat)]).run Try.prog w = .ok (.value (.tuple #[.int .u64 (r : Nat), .int .u64 (c' : Nat)])) w) ∧ Hid (r + c' * 18446744073709551616 = limb x i + limb y i + cc) ∧ r < 18446744073709551616 ∧ c' ≤ 1 := by
            have hl1 := limb_lt x i
            have hl2 := limb_lt y i
            have h := run_add (limb x i) (0) cc (by omega)
            simp only [show ((0 : Nat) : Int) = 0 from rfl] at h
            exact ⟨_, _, h, hid (by omega), Nat.mod_lt _ (by decide), by omega⟩
          have hcs := hS.cell i (by omega)
          have hfs := hS.frozen i
          have gS := hS.set i r
          have gB := hB.setCell (p := ⟨w.heap.size, i, none⟩) (Nat.le_refl _) (.int .u64 (r : Nat))
          have hip : (decide ((i : Int) < (nl x : Nat))) = true := decide_eq_true (by omega)
          have hiq : decide ((i : Int) < (nl y : Nat)) = false := decide_eq_false (by omega)
          clear hB hS
          go_wp2
          go_roundw
          case rel =>
            refine ⟨i + 1, c', upd S i r, by omega, rfl, by go_num, hc1, upd_lt HSb.out hrl, ?_, gS, gB⟩
            rw [sumL_succ (limb x) i, sumL_succ (limb y) i]
            exact padd_step Hsum.out hrc.out
          case measure => simp [intOf] <;> omega
      · by_cases hq : i < nl y
        · have h_ := hq
          have hzx := limb_nl (x := x) (i := i) (by omega)
          obtain ⟨bb, rfl, hbb, hcb⟩ := hcb0 i hq
          have hcy := hcb wr hB
          obtain ⟨r, c', hadd, hrc, hrl, hc1⟩ : ∃ r c' : Nat, (∀ w, (callFunc 28 #[.int .u64 0, .int .u64 (limb y i : Nat), .int .u64 (cc : Nat)]).run Try.prog w = .ok (.value (.tuple #[.int .u64 (r : Nat), .int .u64 (c' : Nat)])) w) ∧ Hid (r + c' * 18446744073709551616 = limb x i + limb y i + cc) ∧ r < 18446744073709551616 ∧ c' ≤ 1 := by
            have hl1 := limb_lt x i
            have hl2 := limb_lt y i
            have h := run_add (0) (limb y i) cc (by omega)
            simp only [show ((0 : Nat) : Int) = 0 from rfl] at h
            exact ⟨_, _, h, hid (by omega), Nat.mod_lt _ (by decide), by omega⟩
          have hcs := hS.cell i (by omega)
          have hfs := hS.frozen i
          have gS := hS.set i r
          have gB := hB.setCell (p := ⟨w.heap.size, i, none⟩) (Nat.le_refl _) (.int .u64 (r : Nat))
          have hip : (decide ((i : Int) < (nl x : Nat))) = false := decide_eq_false (by omega)
          have hiq : decide ((i : Int) < (nl y : Nat)) = true := decide_eq_true (by omega)
          clear hB hS
          go_wp2
          go_roundw
          case rel =>
            refine ⟨i + 1, c', upd S i r, by omega, rfl, by go_num, hc1, upd_lt HSb.out hrl, ?_, gS, gB⟩
            rw [sumL_succ (limb x) i, sumL_succ (limb y) i]
            exact padd_step Hsum.out hrc.out
          case measure => simp [intOf] <;> omega
        · have h_ := hq
          have hzx := limb_nl (x := x) (i := i) (by omega)
          have hzy := limb_nl (x := y) (i := i) (by omega)
          obtain ⟨r, c', hadd, hrc, hrl, hc1⟩ : ∃ r c' : Nat, (∀ w, (callFunc 28 #[.int .u64 0, .int .u64 0, .int .u64 (cc : Nat)]).run Try.prog w = .ok (.value (.tuple #[.int .u64 (r : Nat), .int .u64 (c' : Nat)])) w) ∧ Hid (r + c' * 18446744073709551616 = limb x i + limb y i + cc) ∧ r < 18446744073709551616 ∧ c' ≤ 1 := by
            have hl1 := limb_lt x i
            have hl2 := limb_lt y i
            have h := run_add (0) (0) cc (by omega)
            simp only [show ((0 : Nat) : Int) = 0 from rfl] at h
            exact ⟨_, _, h, hid (by omega), Nat.mod_lt _ (by decide), by omega⟩
          have hcs := hS.cell i (by omega)
          have hfs := hS.frozen i
          have gS := hS.set i r
          have gB := hB.setCell (p := ⟨w.heap.size, i, none⟩) (Nat.le_refl _) (.int .u64 (r : Nat))
          have hip : (decide ((i : Int) < (nl x : Nat))) = false := decide_eq_false (by omega)
          have hiq : decide ((i : Int) < (nl y : Nat)) = false := decide_eq_false (by omega)
          clear hB hS
          go_wp2
          go_roundw
          case rel =>
            refine ⟨i + 1, c', upd S i r, by omega, rfl, by go_num, hc1, upd_lt HSb.out hrl, ?_, gS, gB⟩
            rw [sumL_succ (limb x) i, sumL_succ (limb y) i]
            exact padd_step Hsum.out hrc.out
          case measure => simp [intOf] <;> omega
    · obtain rfl : i = k + 1 := by omega
      have he := plus_end HSb.out hk1 hk2 Hsum.out
      have ht := trim_row w.heap.size (k + 1) (k + 1) (k + 1) S wr hS (Nat.le_refl _) (Nat.le_refl _) (by omega)
      have hres := am_row (c := k + 1) hS (Nat.le_refl _) (Nat.le_refl _) HSb.out
      rw [he] at hres
      have HT := hid ht
      have HR := hid hres
      clear ht hres he HSb Hsum hS
      go_wp2_with (go_at_call 27; (with_reducible refine HT.out.mono ?_); rintro e w' ⟨rfl, hu⟩)
      go_ret
      exact ⟨below_up hB hu, _, rfl, HR.out.up hu⟩
set_option maxHeartbeats 1000000 in
theorem minus_am {x y : Nat} {va vb : Value} {w : World} (ha : Am w va x) (hb : Am w vb y) (hx : nl x < 100000) (hxy : y ≤ x) :
    Calls Try.prog 40 #[va, vb] w fun e w' => Up w w' ∧ ∃ v, e = .returned v ∧ Am w' v (x - y) := by
  obtain ⟨a, ca, rfl, hca1, hca0⟩ := ha.open
  obtain ⟨b, cb, rfl, hcb1, hcb0⟩ := hb.open
  obtain ⟨k, hk⟩ : ∃ k : Nat, k = nl x := ⟨_, rfl⟩
  have hqk : nl y ≤ nl x := nl_le (Nat.lt_of_le_of_lt hxy (lt_bp_nl x))
  clear ha hb
  go_enter Try.func40, Try.ntmps40
  go_wp2_with (first | ((with_reducible apply mkP (n := nl x)); exact rfl; (first | rfl | omega); omega))
  go_loopw [6, 7] (fun tc ti wr => ∃ (i cc : Nat) (S : Nat → Nat), i ≤ nl x ∧ tc = .int .u64 (cc : Nat) ∧ ti = .int .i64 (i : Nat) ∧ cc ≤ 1 ∧ (∀ j, j < nl x → S j < 18446744073709551616) ∧ sumL S i + sumL (limb y) i = sumL (limb x) i + cc * bp i ∧ Row wr w.heap.size 25 (nl x) S ∧ Below w.heap.size w wr)
    (fun _ ti _ => nl x - (intOf ti).toNat)
  case atStart => exact ⟨0, 0, fun _ => 0, by omega, rfl, rfl, by omega, fun _ _ => by simp, by simp [sumL_zero], row_newc _ _ _ rfl, (by repeat (first | assumption | (with_reducible apply Up.of) | (with_reducible exact Below.refl _ _) | ((with_reducible apply bl_setCell); (focus (first | exact Nat.le_refl _ | (simp; done) | (simp; omega) | omega))) | ((with_reducible apply bl_alloc); (focus (first | exact Nat.le_refl _ | (simp; done) | (simp; omega) | omega)))))⟩
  case round =>
    obtain ⟨i, cc, S, hi, rfl, rfl, hcc, hSb, hsum, hS, hB⟩ := hrel
    have HSb := hid hSb
    have Hsum := hid hsum
    clear hSb hsum
    by_cases hlt : i < nl x
    · have hp := hlt
      by_cases hq : i < nl y
      · have h_ := hp
        obtain ⟨ba, rfl, hba, hca⟩ := hca0 i hp
        have hcx := hca wr hB
        obtain ⟨bb, rfl, hbb, hcb⟩ := hcb0 i hq
        have hcy := hcb wr hB
        obtain ⟨r, c', hadd, hrc, hrl, hc1⟩ : ∃ r c' : Nat, (∀ w, (callFunc 54 #[.int .u64 (limb x i : Nat), .int .u64 (limb y i : Nat), .int .u64 (cc : Nat)]).run Try.prog w = .ok (.value (.tuple #[.int .u64 (r : Nat), .int .u64 (c' : Nat)])) w) ∧ Hid (r + limb y i + cc = limb x i + c' * 18446744073709551616) ∧ r < 18446744073709551616 ∧ c' ≤ 1 := by
          have hl1 := limb_lt x i
          have hl2 := limb_lt y i
          have h := run_sub (limb x i) (limb y i) cc (by omega)
          exact ⟨_, _, h, hid (by split <;> omega), Nat.mod_lt _ (by decide), by split <;> omega⟩
        have hcs := hS.cell i (by omega)
        have hfs := hS.frozen i
        have gS := hS.set i r
        have gB := hB.setCell (p := ⟨w.heap.size, i, none⟩) (Nat.le_refl _) (.int .u64 (r : Nat))
        have hip : (decide ((i : Int) < (nl x : Nat))) = true := decide_eq_true (by omega)
        have hiq : decide ((i : Int) < (nl y : Nat)) = true := decide_eq_true (by omega)
        clear hB hS
        go_wp2
        go_roundw
        case rel =>
          refine ⟨i + 1, c', upd S i r, by omega, rfl, by go_num, hc1, upd_lt HSb.out hrl, ?_, gS, gB⟩
          rw [sumL_succ (limb x) i, sumL_succ (limb y) i]
          exact psub_step Hsum.out hrc.out
        case measure => simp [intOf] <;> omega
      · have h_ := hp
        obtain ⟨ba, rfl, hba, hca⟩ := hca0 i hp
        have hcx := hca wr hB
        have hzy := limb_nl (x := y) (i := i) (by omega)
        obtain ⟨r, c', hadd, hrc, hrl, hc1⟩ : ∃ r c' : Nat, (∀ w, (callFunc 54 #[.int .u64 (limb x i : Nat), .int .u64 0, .int .u64 (cc : Nat)]).run Try.prog w = .ok (.value (.tuple #[.int .u64 (r : Nat), .int .u64 (c' : Nat)])) w) ∧ Hid (r + limb y i + cc = limb x i + c' * 18446744073709551616) ∧ r < 18446744073709551616 ∧ c' ≤ 1 := by
          have hl1 := limb_lt x i
          have hl2 := limb_lt y i
          have h := run_sub (limb x i) (0) cc (by omega)
          simp only [show ((0 : Nat) : Int) = 0 from rfl] at h
          exact ⟨_, _, h, hid (by split <;> omega), Nat.mod_lt _ (by decide), by split <;> omega⟩
        have hcs := hS.cell i (by omega)
        have hfs := hS.frozen i
        have gS := hS.set i r
        have gB := hB.setCell (p := ⟨w.heap.size, i, none⟩) (Nat.le_refl _) (.int .u64 (r : Nat))
        have hip : (decide ((i : Int) < (nl x : Nat))) = true := decide_eq_true (by omega)
        have hiq : decide ((i : Int) < (nl y : Nat)) = false := decide_eq_false (by omega)
        clear hB hS
        go_wp2
        go_roundw
        case rel =>
          refine ⟨i + 1, c', upd S i r, by omega, rfl, by go_num, hc1, upd_lt HSb.out hrl, ?_, gS, gB⟩
          rw [sumL_succ (limb x) i, sumL_succ (limb y) i]
          exact psub_step Hsum.out hrc.out
        case measure => simp [intOf] <;> omega
    · obtain rfl : i = nl x := by omega
      have he := minus_end HSb.out (Nat.le_refl _) hxy Hsum.out
      have ht := trim_row w.heap.size (nl x) (nl x) (nl x) S wr hS (Nat.le_refl _) (Nat.le_refl _) (by omega)
      have hres := am_row (c := nl x) hS (Nat.le_refl _) (Nat.le_refl _) HSb.out
      rw [he] at hres
      have HT := hid ht
      have HR := hid hres
      clear ht hres he HSb Hsum hS
      go_wp2_with (go_at_call 27; (with_reducible refine HT.out.mono ?_); rintro e w' ⟨rfl, hu⟩)
      go_ret
      exact ⟨below_up hB hu, _, rfl, HR.out.up hu⟩
end Go.Proofs.Ytbogbdokllmanaa
/-
  The reference's whole numbers: made, Neg, Amount, Sign, Add, Sub.
-/
namespace Go.Proofs.Ytbogbdokllmanaa
open Go Go.RowKit
set_option maxRecDepth 100000

theorem undB0 : (match Try.prog.underlying 30 with | some (.struct _) => true | _ => false) = true := by kernel_rfl
theorem undB : ∃ fs, Try.prog.underlying 30 = some (.struct fs) := by
  have h := undB0
  split at h
  · exact ⟨_, by assumption⟩
  · cases h
theorem infoB : (Try.prog.info? 30).map (·.size) = some 2 := by kernel_rfl
theorem blk_new {w : World} {b : Nat} {t : TypeId} {C : Array Value} (h : b = w.heap.size) : Blk (w.alloc (.cells C t)) b t C := Blk.new _ _ h
theorem blk_alloc {w : World} {b : Nat} {t : TypeId} {C : Array Value} {o : Obj} (h : Blk w b t C) : Blk (w.alloc o) b t C := h.old o
theorem blk_drew {w : World} {b : Nat} {t : TypeId} {C : Array Value} (h : Blk w b t C) : Blk w.drew b t C := h
theorem blk_drewN {w : World} {b k : Nat} {t : TypeId} {C : Array Value} (h : Blk w b t C) : Blk (w.drewN k) b t C := h
theorem blk_up {w w' : World} {b : Nat} {t : TypeId} {C : Array Value} (hu : Up w w') (h : Blk w b t C) : Blk w' b t C := h.up hu
theorem blk_same {w : World} {b : Nat} {t : TypeId} {C D : Array Value} (h : Blk w b t C) : Blk (w.setRow b D) b t D := h.setRow D
theorem blk_else {w : World} {b g : Nat} {t : TypeId} {C D : Array Value} (hb : b ≠ g) (h : Blk w b t C) : Blk (w.setRow g D) b t C := h.row_other D hb
theorem one2 (b : Bool) (a : Option Addr) (n c : Nat) : (#[Value.bool b, Value.slice a n c]).all (·.oneCell') = true := by simp [Value.oneCell']
section
variable {ops : Array Oper} {rest : List Oper} {Q : Exit → Act → World → Prop} {a : Act} {w : World} {d : Option Tmp} {s u : Tmp} {ty : TypeId} {pos : String} {af : Array Edge} {gd : Option (Nat × Bool)} {g : Nat} {C D : Array Value}
theorem run_ldB {o : Oper} {x : Operand} (ho : o.op = .load 30 x) (hx : a.eval x = .pointer (some ⟨g, 0, none⟩)) (hC : Blk w g 30 C) (h2 : C.size = 2) : (execOp a.eval o).run Try.prog w = .ok (.value (.agg C)) w := by
  obtain ⟨fs, hu⟩ := undB
  unfold execOp
  simp only [ho, hx, Instr.loadAt, Instr.sureAddr, Sem.run_bind, Sem.run_pure, Result.andThen_ok, run_loadVar_row w g _ 30 C (0, 0) _ hC hu rfl (by rw [infoB, h2])]
theorem ldB_P (hw : Region.wanted { dst := d, op := .load 30 (.tmp s), type := ty, pos := pos, after := af, guard := gd } (yielded ops a.tmps) = true) (hx : a.eval (.tmp s) = .pointer (some ⟨g, 0, none⟩)) (hC : Blk w g 30 C) (h2 : C.size = 2)
    (h : wpList Try.prog ops Q rest (a.put d (.agg C)) w) : wpList Try.prog ops Q ({ dst := d, op := .load 30 (.tmp s), type := ty, pos := pos, after := af, guard := gd } :: rest) a w :=
  wpList_run hw (run_ldB rfl hx hC h2) h
theorem stB_P (hx : a.eval (.tmp s) = .pointer (some ⟨g, 0, none⟩)) (hy : a.eval (.tmp u) = .agg D) (hC : Blk w g 30 C) (h2 : C.size = 2) (h3 : D.size = 2) (h1 : D.all (·.oneCell') = true)
    (h : wpList Try.prog ops Q rest (a.put d undef) (w.setRow g D)) :
    wpList Try.prog ops Q ({ dst := d, op := .store 30 (.tmp s) (.tmp u), type := ty, pos := pos, after := af, guard := none } :: rest) a w :=
  wpList_plain rfl fun _ hK => wp_store_row _ _ _ rfl g D hx hy _ C hC (by rw [infoB, h3]) (by rw [h2, h3]) h1 (hK _ _ h)
theorem wp_stB {o : Oper} {K : Act → World → Prop} (hd : o.dst = none) {x y : Operand} (ho : o.op = .store 30 x y) (hx : a.eval x = .pointer (some ⟨g, 0, none⟩)) (hy : a.eval y = .agg D) (hC : Blk w g 30 C) (h2 : C.size = 2) (h3 : D.size = 2) (h1 : D.all (·.oneCell') = true)
    (h : K a (w.setRow g D)) : o.wp Try.prog a w K Q :=
  wp_store_row _ _ _ ho g D hx hy _ C hC (by rw [infoB, h3]) (by rw [h2, h3]) h1 (by rw [hd]; exact h)
end
theorem resB {fn : Func} {p : Tmp} (h : fn.results = #[.cell p 30]) {tmps : Array Value} {w : World} {g : Nat} {C : Array Value} (hp : tmps.getD p undef = .pointer (some ⟨g, 0, none⟩)) (hC : Blk w g 30 C) (h2 : C.size = 2) :
    (results fn tmps).run Try.prog w = .ok (.agg C) w := undB.elim fun _ hu => results_cell_row h tmps w g _ C (0, 0) _ hp hC hu rfl (by rw [infoB, h2])
section
variable {P : Program} {ops : Array Oper} {Q : Exit → Act → World → Prop} {md : Region.Mode} {S : World → Prop} {req : Nat → Bool}
/-- The one operation that may come up is a call, of whose value something is known. -/
theorem wpAnyU_callE {i : Nat} {o : Oper} {d : Option Tmp} {fuel : Nat} {listed : Array Bool} {a : Act} {w : World} {f : FuncId} {args : Array Value} {R : Value → World → Prop} (hi : ops[i]? = some o) (hd : o.dst = d) (hr : Region.ready md ops listed = [i]) (hw : Region.wanted o (yielded ops a.tmps) = true)
    (hSup : ∀ w w', S w → Up w w' → S w') (hrun : ∀ w', (execOp a.eval o).run P w' = .ok (.enter f args) w') (hc : ∀ w', Up w w' → Calls P f args w' fun e w'' => Up w' w'' ∧ ∃ v, e = .returned v ∧ R v w'')
    (h : ∀ v w'', Up w w'' → R v w'' → wpAnyU P md ops Q S req fuel (listed.setIfInBounds i true) (a.put d v) w'') : wpAnyU P md ops Q S req (fuel + 1) listed a w := by
  refine wpAnyU_one hi hr hw fun w' hw' => ?_
  unfold Oper.wp
  rw [hrun w']
  subst hd
  refine Calls.mono (hc w' hw') fun e w'' he => ?_
  obtain ⟨hu, v, rfl, hR⟩ := he
  exact ⟨fun _ hs => hSup _ _ hs hu, h v w'' (hw'.trans hu) hR⟩
end
theorem callE_of {P : Program} {f : FuncId} {args : Array Value} {w : World} {v : Value} (h : Calls P f args w fun e w' => e = .returned v ∧ Up w w') : Calls P f args w fun e w' => Up w w' ∧ ∃ u, e = .returned u ∧ u = v :=
  h.mono fun _ _ he => ⟨he.2, v, he.1, rfl⟩

/-! ### A whole number in memory -/
def Big (w : World) (v : Value) (z : Int) : Prop := ∃ a c, v = .agg #[.bool (decide (z < 0)), .slice a (nl z.natAbs) c] ∧ Am w (.slice a (nl z.natAbs) c) z.natAbs
theorem Big.up {w w' : World} {v : Value} {z : Int} (h : Big w v z) (hu : Up w w') : Big w' v z := by
  obtain ⟨a, c, h1, h2⟩ := h
  exact ⟨a, c, h1, h2.up hu⟩
theorem Am.shape {w : World} {v : Value} {x : Nat} (h : Am w v x) : ∃ a c, v = .slice a (nl x) c := by
  obtain ⟨a, c, h1, _⟩ := h
  exact ⟨a, c, h1⟩
theorem pm_abs (neg : Bool) (x : Nat) : (pm neg x).natAbs = x := by cases neg <;> simp [pm]
theorem pm_neg (neg : Bool) (x : Nat) : decide (pm neg x < 0) = (neg && decide (0 < nl x)) := by
  rw [Bool.eq_iff_iff]
  cases neg <;> simp [pm, nl_pos_iff] <;> omega
theorem big_made {w : World} {a : Option Addr} {c x : Nat} (neg : Bool) (h : Am w (.slice a (nl x) c) x) : Big w (.agg #[.bool (neg && decide (0 < nl x)), .slice a (nl x) c]) (pm neg x) :=
  ⟨a, c, by rw [pm_neg, pm_abs], by rw [pm_abs]; exact h⟩
theorem made_any (neg : Bool) (a : Option Addr) (n c : Nat) (w : World) :
    Calls Try.prog 26 #[.bool neg, .slice a n c] w fun e w' => e = .returned (.agg #[.bool (neg && decide (0 < n)), .slice a n c]) ∧ Up w w' := by
  cases neg with
  | false =>
    rw [Bool.false_and]
    go_enter Try.func26, Try.ntmps26
    go_wp2
    exact bodyPost_ret (resB rfl rfl (by (repeat (first | assumption | ((with_reducible apply blk_new); (focus (first | rfl | (simp; done)))) | (with_reducible apply blk_alloc) | (with_reducible apply blk_drew) | (with_reducible apply blk_drewN) | ((with_reducible apply blk_up); assumption) | (with_reducible apply blk_same) | ((with_reducible apply blk_else); (focus (first | (simp; done) | (simp; omega) | omega)))))) rfl) rfl ⟨rfl, (by repeat (first | assumption | (with_reducible apply Up.of) | (with_reducible exact Below.refl _ _) | (with_reducible exact Up.refl _) | ((with_reducible apply bl_setRow); (focus (first | exact Nat.le_refl _ | (simp; done) | (simp; omega) | omega))) | (with_reducible apply below_drewN) | (with_reducible apply Below.drew) | ((with_reducible apply bl_alloc); (focus (first | exact Nat.le_refl _ | (simp; done) | (simp; omega) | omega))) | ((with_reducible apply bl_setCell); (focus (first | exact Nat.le_refl _ | (simp; done) | (simp; omega) | omega))) | ((with_reducible apply up_tr); assumption)))⟩
  | true =>
    rw [Bool.true_and]
    go_enter Try.func26, Try.ntmps26
    go_wp2
    exact bodyPost_ret (resB rfl rfl (by (repeat (first | assumption | ((with_reducible apply blk_new); (focus (first | rfl | (simp; done)))) | (with_reducible apply blk_alloc) | (with_reducible apply blk_drew) | (with_reducible apply blk_drewN) | ((with_reducible apply blk_up); assumption) | (with_reducible apply blk_same) | ((with_reducible apply blk_else); (focus (first | (simp; done) | (simp; omega) | omega)))))) rfl) rfl ⟨by first | rfl | simp, (by repeat (first | assumption | (with_reducible apply Up.of) | (with_reducible exact Below.refl _ _) | (with_reducible exact Up.refl _) | ((with_reducible apply bl_setRow); (focus (first | exact Nat.le_refl _ | (simp; done) | (simp; omega) | omega))) | (with_reducible apply below_drewN) | (with_reducible apply Below.drew) | ((with_reducible apply bl_alloc); (focus (first | exact Nat.le_refl _ | (simp; done) | (simp; omega) | omega))) | ((with_reducible apply bl_setCell); (focus (first | exact Nat.le_refl _ | (simp; done) | (simp; omega) | omega))) | ((with_reducible apply up_tr); assumption)))⟩
theorem neg_any (b : Bool) (a : Option Addr) (n c : Nat) (w : World) :
    Calls Try.prog 25 #[.agg #[.bool b, .slice a n c]] w fun e w' => e = .returned (.agg #[.bool (!b && decide (0 < n)), .slice a n c]) ∧ Up w w' := by
  have HM := hid (fun w => made_any (!b) a n c w)
  go_enter Try.func25, Try.ntmps25
  go_wp2_with (first | ((with_reducible apply stB_P); exact rfl; exact rfl; (focus (repeat (first | assumption | ((with_reducible apply blk_new); (focus (first | rfl | (simp; done)))) | (with_reducible apply blk_alloc) | (with_reducible apply blk_drew) | (with_reducible apply blk_drewN) | ((with_reducible apply blk_up); assumption) | (with_reducible apply blk_same) | ((with_reducible apply blk_else); (focus (first | (simp; done) | (simp; omega) | omega)))))); exact rfl; exact rfl; exact one2 _ _ _ _) | (go_at_call 26; refine (HM.out _).mono ?_; rintro e w' ⟨rfl, hu⟩))
  exact bodyPost_ret (resB rfl rfl (by (repeat (first | assumption | ((with_reducible apply blk_new); (focus (first | rfl | (simp; done)))) | (with_reducible apply blk_alloc) | (with_reducible apply blk_drew) | (with_reducible apply blk_drewN) | ((with_reducible apply blk_up); assumption) | (with_reducible apply blk_same) | ((with_reducible apply blk_else); (focus (first | (simp; done) | (simp; omega) | omega)))))) rfl) rfl ⟨rfl, (by repeat (first | assumption | (with_reducible apply Up.of) | (with_reducible exact Below.refl _ _) | (with_reducible exact Up.refl _) | ((with_reducible apply bl_setRow); (focus (first | exact Nat.le_refl _ | (simp; done) | (simp; omega) | omega))) | (with_reducible apply below_drewN) | (with_reducible apply Below.drew) | ((with_reducible apply bl_alloc); (focus (first | exact Nat.le_refl _ | (simp; done) | (simp; omega) | omega))) | ((with_reducible apply bl_setCell); (focus (first | exact Nat.le_refl _ | (simp; done) | (simp; omega) | omega))) | ((with_reducible apply up_tr); assumption)))⟩
def bsign (b : Bool) (n : Nat) : Int := if n = 0 then 0 else if b then -1 else 1
theorem bsign_any (b : Bool) (a : Option Addr) (n c : Nat) (w : World) :
    Calls Try.prog 9 #[.agg #[.bool b, .slice a n c]] w fun e w' => e = .returned (.int .i64 (bsign b n)) ∧ Up w w' := by
  by_cases h0 : n = 0
  · subst h0
    go_enter Try.func9, Try.ntmps9
    go_wp2
    go_ret
    exact ⟨rfl, (by repeat (first | assumption | (with_reducible apply Up.of) | (with_reducible exact Below.refl _ _) | (with_reducible exact Up.refl _) | ((with_reducible apply bl_setRow); (focus (first | exact Nat.le_refl _ | (simp; done) | (simp; omega) | omega))) | (with_reducible apply below_drewN) | (with_reducible apply Below.drew) | ((with_reducible apply bl_alloc); (focus (first | exact Nat.le_refl _ | (simp; done) | (simp; omega) | omega))) | ((with_reducible apply bl_setCell); (focus (first | exact Nat.le_refl _ | (simp; done) | (simp; omega) | omega))) | ((with_reducible apply up_tr); assumption)))⟩
  · have hb : ((n : Int) == 0) = false := by simpa using h0
    have e : bsign b n = if b then -1 else 1 := by unfold bsign; rw [if_neg h0]
    rw [e]
    clear e h0
    go_enter Try.func9, Try.ntmps9
    cases b <;> (go_wp2; go_ret; exact ⟨rfl, (by repeat (first | assumption | (with_reducible apply Up.of) | (with_reducible exact Below.refl _ _) | (with_reducible exact Up.refl _) | ((with_reducible apply bl_setRow); (focus (first | exact Nat.le_refl _ | (simp; done) | (simp; omega) | omega))) | (with_reducible apply below_drewN) | (with_reducible apply Below.drew) | ((with_reducible apply bl_alloc); (focus (first | exact Nat.le_refl _ | (simp; done) | (simp; omega) | omega))) | ((with_reducible apply bl_setCell); (focus (first | exact Nat.le_refl _ | (simp; done) | (simp; omega) | omega))) | ((with_reducible apply up_tr); assumption)))⟩)
theorem big_neg {w : World} {v : Value} {z : Int} (h : Big w v z) : ∃ b a n c, v = .agg #[.bool b, .slice a n c] ∧ Big w (.agg #[.bool (!b && decide (0 < n)), .slice a n c]) (-z) := by
  obtain ⟨a, c, rfl, hA⟩ := h
  refine ⟨_, a, _, c, rfl, a, c, ?_, by rw [Int.natAbs_neg]; exact hA⟩
  rw [Int.natAbs_neg]
  have : (!decide (z < 0) && decide (0 < nl z.natAbs)) = decide (-z < 0) := by
    rw [Bool.eq_iff_iff]
    simp [nl_pos_iff]
    omega
  rw [this]
theorem sgn_big {z : Int} : bsign (decide (z < 0)) (nl z.natAbs) = sgn z := by
  unfold bsign sgn
  by_cases h : nl z.natAbs = 0
  · have : ¬ 0 < z.natAbs := fun h1 => by have := nl_pos h1; omega
    rw [if_pos h, show z = 0 by omega]; rfl
  · have := nl_pos_iff.1 (Nat.pos_of_ne_zero h)
    rw [if_neg h]
    by_cases h1 : z < 0
    · simp [h1]
    · have h2 : z ≠ 0 := by omega
      simp [h1, h2]
end Go.Proofs.Ytbogbdokllmanaa
/-
  The reference's order of amounts; its sums and differences of whole numbers.
-/
namespace Go.Proofs.Ytbogbdokllmanaa
open Go Go.RowKit
set_option maxRecDepth 100000

theorem ord_len {x y : Nat} (h : nl x < nl y) : x < y := by
  have h1 := lt_bp_nl x
  have h2 := bp_le_nl (show 0 < nl y by omega)
  have h3 := bp_mono (show nl x ≤ nl y - 1 by omega)
  omega
set_option maxHeartbeats 1000000 in
theorem cmp_am {x y : Nat} {va vb : Value} {w : World} (ha : Am w va x) (hb : Am w vb y) (_ : nl x < 1000000) (hy : nl y < 1000000) :
    Calls Try.prog 36 #[va, vb] w fun e w' => e = .returned (.int .i64 (ordZ x y)) ∧ Up w w' := by
  obtain ⟨a, ca, rfl, hca1, hca0⟩ := ha.open
  obtain ⟨b, cb, rfl, hcb1, hcb0⟩ := hb.open
  clear ha hb
  rcases Nat.lt_trichotomy (nl x) (nl y) with h | h | h
  · have e : ordZ x y = -1 := by unfold ordZ; rw [if_pos (ord_len h)]
    rw [e]
    have d0 : ((nl x : Int) != (nl y : Nat)) = true := by simp; omega
    have d1 : decide ((nl x : Int) < (nl y : Nat)) = true := decide_eq_true (by omega)
    clear e hca0 hcb0
    generalize nl x = p at *
    generalize nl y = q at *
    go_enter Try.func36, Try.ntmps36
    go_wp2
    go_ret
    exact ⟨rfl, (by repeat (first | assumption | (with_reducible apply Up.of) | (with_reducible exact Below.refl _ _) | (with_reducible exact Up.refl _) | ((with_reducible apply bl_setRow); (focus (first | exact Nat.le_refl _ | (simp; done) | (simp; omega) | omega))) | (with_reducible apply below_drewN) | (with_reducible apply Below.drew) | ((with_reducible apply bl_alloc); (focus (first | exact Nat.le_refl _ | (simp; done) | (simp; omega) | omega))) | ((with_reducible apply bl_setCell); (focus (first | exact Nat.le_refl _ | (simp; done) | (simp; omega) | omega))) | ((with_reducible apply up_tr); assumption)))⟩
  · have H := hid h
    go_enter Try.func36, Try.ntmps36
    rw [h]
    clear h
    go_wp2
    go_loopw [5] (fun i wr => ∃ m : Nat, m ≤ nl y ∧ i = .int .i64 ((m : Int) - 1) ∧ (∀ i, m ≤ i → i < nl y → limb x i = limb y i) ∧ Below w.heap.size w wr)
      (fun i _ => (intOf i + 1).toNat)
    case atStart => exact ⟨nl y, Nat.le_refl _, rfl, fun i h1 h2 => by omega, Below.refl _ _⟩
    case round =>
      obtain ⟨m, hm, rfl, hgx, hB⟩ := hrel
      have Hgx := hid hgx
      clear hgx
      by_cases hlt : 0 < m
      · obtain ⟨k, rfl⟩ : ∃ k, m = k + 1 := ⟨m - 1, by omega⟩
        have e : (((k + 1 : Nat) : Int) - 1) = (k : Int) := by omega
        rw [e]
        clear e
        have hHy := H.out
        obtain ⟨ba, rfl, hba, hca⟩ := hca0 k (by omega)
        obtain ⟨bb, rfl, hbb, hcb⟩ := hcb0 k (by omega)
        clear hHy
        have hcx := hca wr hB
        have hcy := hcb wr hB
        have hl1 := limb_lt x k
        have hl2 := limb_lt y k
        have sx : sumL (limb x) (nl y) = x := by rw [← H.out]; exact sum_nl x
        have sy := sum_nl y
        have h1 : limb x k < limb y k → ordZ x y = -1 := fun h => by
          have := sumL_lt_of (fun i _ => limb_lt x i) (show k < nl y by omega) (fun j h1 h2 => Hgx.out j (by omega) h2) h
          rw [sx, sy] at this
          simp [ordZ, this]
        have h2 : limb y k < limb x k → ordZ x y = 1 := fun h => by
          have := sumL_lt_of (fun i _ => limb_lt y i) (show k < nl y by omega) (fun j h1 h2 => (Hgx.out j (by omega) h2).symm) h
          rw [sx, sy] at this
          have h3 : ¬ x < y := by omega
          simp [ordZ, this, h3]
        have hE : limb x k = limb y k → ∀ i, k ≤ i → i < nl y → limb x i = limb y i := fun h i h1 h2 => by
          by_cases e : i = k
          · rw [e]; exact h
          · exact Hgx.out i (by omega) h2
        have H1 := hid h1
        have H2 := hid h2
        have HE := hid hE
        clear sx sy h1 h2 hE hca hcb hca0 hcb0
        generalize limb x k = lx at *
        generalize limb y k = ly at *
        rcases Nat.lt_trichotomy lx ly with h | h | h
        · have d0 : ((lx : Int) != ly) = true := by simp; omega
          have d1 : decide ((lx : Int) < ly) = true := decide_eq_true (by omega)
          go_wp2
          go_quiet (fail)
          go_wp2
          go_quiet (fail)
          go_wp2
          go_ret
          exact ⟨ret_int (H1.out h).symm, below_drewN (below_drewN hB _) _⟩
        · have HF := hid (HE.out h)
          have d0 : ((lx : Int) != ly) = false := by simp; omega
          clear HE
          go_wp2
          go_quiet (fail)
          go_wp2
          go_roundw
          case rel => exact ⟨k, by omega, by go_num, HF.out, below_drewN hB _⟩
          case measure => simp [intOf] <;> omega
        · have d0 : ((lx : Int) != ly) = true := by simp; omega
          have d1 : decide ((lx : Int) < ly) = false := decide_eq_false (by omega)
          go_wp2
          go_quiet (fail)
          go_wp2
          go_quiet (fail)
          go_wp2
          go_ret
          exact ⟨ret_int (H2.out h).symm, below_drewN (below_drewN hB _) _⟩
      · obtain rfl : m = 0 := by omega
        have h0 : x = y := by
          rw [← sum_nl x, ← sum_nl y, H.out]
          exact sumL_congr fun i hi => Hgx.out i (by omega) hi
        have H0 := hid h0
        clear h0
        go_wp2
        go_ret
        exact ⟨ret_int (by simp [ordZ, H0.out]), hB⟩
  · have e : ordZ x y = 1 := by
      have := ord_len h
      unfold ordZ
      rw [if_neg (by omega)]
      first | rw [if_neg (by omega)] | rw [if_pos (by omega)]
    rw [e]
    have d0 : ((nl x : Int) != (nl y : Nat)) = true := by simp; omega
    have d1 : decide ((nl x : Int) < (nl y : Nat)) = false := decide_eq_false (by omega)
    clear e hca0 hcb0
    generalize nl x = p at *
    generalize nl y = q at *
    go_enter Try.func36, Try.ntmps36
    go_wp2
    go_ret
    exact ⟨rfl, (by repeat (first | assumption | (with_reducible apply Up.of) | (with_reducible exact Below.refl _ _) | (with_reducible exact Up.refl _) | ((with_reducible apply bl_setRow); (focus (first | exact Nat.le_refl _ | (simp; done) | (simp; omega) | omega))) | (with_reducible apply below_drewN) | (with_reducible apply Below.drew) | ((with_reducible apply bl_alloc); (focus (first | exact Nat.le_refl _ | (simp; done) | (simp; omega) | omega))) | ((with_reducible apply bl_setCell); (focus (first | exact Nat.le_refl _ | (simp; done) | (simp; omega) | omega))) | ((with_reducible apply up_tr); assumption)))⟩
end Go.Proofs.Ytbogbdokllmanaa
