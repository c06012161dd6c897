import Derived.Test.YtjoenldfjggciaaGreatDoorPg
import Derived.Laws.StructEq
namespace Go.Proofs.YtjoenldfjggciaaGreatDoor
open Go Go.RowKit
set_option maxRecDepth 100000
theorem sbig_any {z : Int} (hz : InR z) (w : World) :
    Calls Tryz.prog 47 #[.agg (cells 16 (limb (enc z)))] w fun e w' => Up w w' ∧ ∃ v, e = .returned v ∧ Big w' v z := by
  have HF := hid (fun w => from_wide hz w)
  unfold wideV at HF
  go_enter Tryz.func47, Tryz.ntmps47
  obtain ⟨W0, hW0⟩ : ∃ y, (w.alloc (.cells (cells 16 (limb (enc z))) 33)).alloc (.cells #[.bool false, .slice none 0 0] 46) = y := ⟨_, rfl⟩
  have hQ : Blk W0 (w.heap.size + 1) 46 #[.bool false, .slice none 0 0] := by rw [← hW0]; exact Blk.new _ _ (by simp)
  have hR : Row W0 w.heap.size 33 16 (limb (enc z)) := by rw [← hW0]; exact Row.up (row_newc _ _ _ rfl) (Up.alloc _ _)
  have hU : Up w W0 := by rw [← hW0]; exact (Up.alloc _ _).trans (Up.alloc _ _)
  go_wp2_with (first
    | ((with_reducible apply ld_rowP undW infoW); exact rfl; exact rfl; exact gRow)
    | (go_at_call 94; (with_reducible refine (HF.out _).mono ?_); rintro r w1 ⟨hu1, v1, rfl, hv1⟩; obtain ⟨b, a, n, c, rfl⟩ := hv1.shape; have hQ1 := hQ.up hu1)
    | ((with_reducible apply stB_P); exact rfl; exact rfl; exact hQ1; exact rfl; exact rfl; exact one2 _ _ _ _))
  exact bodyPost_ret (resB rfl rfl (hQ1.setRow _) rfl) rfl ⟨below_setRow (hU.trans hu1) (by omega) _, _, rfl, big_set hQ1 hv1⟩
theorem ErrsP.iface {B : ByteArray} {w : World} {u : Value} {e : Int} (h : ErrsP B w u e) (h0 : e ≠ 0) : ∃ t x, u = .iface t x := by
  rcases h with ⟨h, -⟩ | ⟨-, t, x, h, -⟩
  · exact absurd h h0
  · exact ⟨t, x, h⟩
theorem exact_ok {v xv : Value} {n : Nat} {l x : List Int} {w : World} (hm : Sm w v n l) (hx : Vw w xv x) (hI : In64 x) (hs : x.length ≤ 1000) (h0 : slC n l x = 0) :
    Calls Tryz.prog 32 #[v, xv] w fun r w' => ∃ p c, r = .returned (.tuple #[.slice p n c, .nilIface]) ∧ Up w w' ∧ Fv w' (.slice p n c) (slD n l) (slL n l x) := by
  refine (exact_any hm hx hI hs).mono ?_
  rintro r w' ⟨z, u, rfl, hu, hF, -, he⟩
  have hE : exL n l x = slL n l x := by unfold exL; rw [if_pos h0]; rfl
  rw [hE] at hF
  obtain ⟨p, c, rfl⟩ := hF.slice
  have hl : (slL n l x).length = n := mk_len _ _
  rw [hl] at hF ⊢
  rcases he with ⟨-, rfl⟩ | ⟨h, -⟩
  · exact ⟨p, c, rfl, hu, hF⟩
  · exact absurd h0 h
theorem exact_bad {v xv : Value} {N e : Int} {l x : List Int} {w : World} (hm : Sm w v N l) (hx : Vw w xv x) (hI : In64 x) (hs : x.length ≤ 1000) (h0 : slC N l x = e) (he0 : e ≠ 0) :
    Calls Tryz.prog 32 #[v, xv] w fun r w' => ∃ t y, r = .returned (.tuple #[.slice none 0 0, .iface t y]) ∧ Up w w' ∧ ErrsP solveB w' (.iface t y) e := by
  refine (exact_any hm hx hI hs).mono ?_
  rintro r w' ⟨z, u, rfl, hu, -, hz, he⟩
  obtain rfl := hz (by rw [h0]; exact he0)
  rw [h0] at he
  obtain ⟨t, y, rfl⟩ := he.iface he0
  exact ⟨t, y, rfl, hu, he⟩
theorem unit_set (n a : Nat) : (List.replicate n (0 : Int)).set a 1 = unitL n a := by
  refine zth_ext (by rw [List.length_set, List.length_replicate]; exact (mk_len _ _).symm) fun i hi => ?_
  have hi' : i < n := by rw [List.length_set, List.length_replicate] at hi; exact hi
  unfold unitL
  rw [mk_at hi']
  unfold zth
  rw [List.getD_eq_getElem?_getD, List.getElem?_set]
  by_cases h : a = i
  · subst h
    rw [if_pos rfl, if_pos (by rw [List.length_replicate]; exact hi'), if_pos rfl]; rfl
  · rw [if_neg h, if_neg (fun e => h e.symm), List.getElem?_replicate, if_pos hi']; rfl
theorem unit_in (n a : Nat) : In64 (unitL n a) := fun i hi => by
  have hi' : i < n := by have h : (unitL n a).length = n := mk_len _ _; omega
  unfold unitL
  rw [mk_at hi']
  unfold I64
  split <;> omega
theorem unit_len (n a : Nat) : (unitL n a).length = n := mk_len _ _
def clC (N : Int) (l : List Int) (i : Int) : Int := if rt N l = true then (if 0 ≤ i ∧ i < N then slC N l (unitL N.toNat i.toNat) else 20) else 23
def ColPost (w : World) (N : Int) (l : List Int) (i : Int) (r : Ending) (w' : World) : Prop := ∃ z u, r = .returned (.tuple #[z, u]) ∧ Up w w' ∧ ErrsP solveB w' u (clC N l i) ∧ (clC N l i ≠ 0 → z = .slice none 0 0) ∧ (clC N l i = 0 → Fv w' z (slD N.toNat l) (slL N.toNat l (unitL N.toNat i.toNat)))
theorem lv_nil (w : World) : Lv w (.slice none 0 0) [] := ⟨_, _, rfl, fun i hi => absurd hi (Nat.not_lt_zero i)⟩
theorem ftC_nil (N : Int) (l : List Int) : ftC N l [] = if rt N l = true then 0 else 23 := by
  unfold ftC
  cases rt N l with
  | true =>
    rw [if_pos ⟨rfl, fun i hi => absurd hi (Nat.not_lt_zero i)⟩, if_pos rfl]
    exact if_pos fun i hi => absurd hi (Nat.not_lt_zero i)
  | false => rw [if_neg (by simp), if_neg (by decide)]
set_option maxHeartbeats 16000000 in
theorem column_any {v : Value} {N : Int} {l : List Int} (i : Int) {w : World} (hm : Sm w v N l) (hi : I64 i) :
    Calls Tryz.prog 42 #[v, .int .i64 i] w (ColPost w N l i) := by
  have HF := hid (fun w' (hu : Up w w') => ftC_nil N l ▸ fitting_any (hm.up hu) (lv_nil w') (fun _ j hj => absurd hj (Nat.not_lt_zero j)) (fun _ => Nat.zero_le _) (by simp))
  have HW20 := hid (fun w => swrong_any 20 (by decide) w)
  have HSm := hid hm
  obtain ⟨s, rfl, ⟨p, cap, rfl, -, -⟩, -, -, -⟩ := hm
  obtain ⟨W0, hW0⟩ : ∃ W0, w.alloc (.cells #[.int .i64 N, .slice p l.length cap] 24) = W0 := ⟨_, rfl⟩
  have hB : Blk W0 w.heap.size 24 #[.int .i64 N, .slice p l.length cap] := by rw [← hW0]; exact Blk.new _ _ rfl
  have hU : Up w W0 := by rw [← hW0]; exact Up.alloc _ _
  unfold ColPost
  obtain ⟨C, hC⟩ : ∃ C, clC N l i = C := ⟨_, rfl⟩
  have HC := hid hC
  rw [hC]
  clear hC
  cases hR : rt N l with
  | false =>
    rw [hR, if_neg (by decide)] at HF
    have HC2 : Hid (C = 23) := hid (by rw [← HC.out]; unfold clC; rw [hR]; rfl)
    clear hR hi
    go_enter Tryz.func42, Tryz.ntmps42
    go_upto_region 2 with (first
      | ((with_reducible apply ldM_P); exact rfl; exact rfl; exact hB; exact rfl)
      | (go_at_call 81; (with_reducible refine (HF.out _ hU).mono ?_); rintro r w1 ⟨u1, rfl, hu1, h1⟩))
    obtain ⟨t, y, rfl⟩ := h1.iface (by decide)
    go_wp2_with fail
    go_ret2
    exact ⟨_, _, rfl, hU.trans hu1, by rw [HC2.out]; exact h1, fun _ => rfl, fun h => by rw [HC2.out] at h; omega⟩
  | true =>
    rw [hR, if_pos rfl] at HF
    obtain ⟨n0, n8, -, -⟩ := rt_spec hR
    obtain ⟨n, rfl⟩ : ∃ n : Nat, N = (n : Int) := ⟨N.toNat, by omega⟩
    by_cases hin : 0 ≤ i ∧ i < (n : Int)
    · obtain ⟨a, rfl⟩ : ∃ a : Nat, i = (a : Int) := ⟨i.toNat, by omega⟩
      have ha : a < n := by omega
      have HEx := hid (fun w' (hu : Up w w') (xv : Value) (hx : Vw w' xv (unitL n a)) => exact_any (HSm.out.up hu) hx (unit_in n a) (by rw [unit_len]; omega))
      have HC2 : Hid (C = slC n l (unitL n a)) := hid (by rw [← HC.out]; unfold clC; rw [hR, if_pos rfl, if_pos hin]; rfl)
      have d1 : decide ((a : Int) < 0) = false := decide_eq_false (by omega)
      have d2 : decide ((n : Int) ≤ (a : Int)) = false := decide_eq_false (by omega)
      clear hR hin hi
      go_enter Tryz.func42, Tryz.ntmps42
      go_upto_region 7 with (first
        | ((with_reducible apply ldM_P); exact rfl; exact rfl; exact hB; exact rfl)
        | (go_at_call 81; (with_reducible refine (HF.out _ hU).mono ?_); rintro r w1 ⟨u1, rfl, hu1, h1⟩; obtain rfl := h1.elim (fun h => h.2) (fun h => absurd rfl h.1); have hB1 := hB.up hu1; have hU1 := hU.trans hu1; have hcm := hB1.cell 0 rfl)
        | ((with_reducible apply mkI); exact rfl; (focus omega); (focus omega); rintro g m c w2 hO2 hu2; have hB2 := hB1.up hu2; have hU2 := hU1.trans hu2))
      have hO2' := hO2
      rw [Int.toNat_natCast] at hO2'
      have hml : (List.replicate n (0 : Int)).length = n := List.length_replicate
      obtain ⟨g', cap', C2, hv, hbg, -, -, -, -, -⟩ := hO2'.open (by rw [hml]; omega)
      rw [hml] at hv
      injection hv with x1 x2 x3
      injection x1 with x1
      injection x1 with x1
      have x2' := x2.symm
      subst x1 x2' x3
      obtain ⟨hcW, hfW⟩ := hO2'.cells (k := a) (by rw [hml]; exact ha)
      have hset := hO2'.set (k := a) (by rw [hml]; exact ha) 1
      rw [unit_set] at hset
      have hlt1 := hB1.lt
      have gB := hB2.other ⟨g, a, none⟩ (.int .i64 1) (show w.heap.size ≠ g by omega)
      have gU : Up w (w2.setCell ⟨g, a, none⟩ (.int .i64 1)) := bl_setCell (show w.heap.size ≤ g by omega) hU2
      have HE2 := hid (HEx.out _ gU _ hset.vw)
      unfold ExactPost at HE2
      rw [← HC2.out] at HE2
      obtain ⟨X, hX⟩ : ∃ X, exL n l (unitL n a) = X := ⟨_, rfl⟩
      have HX := hid (show C = 0 → X = slL n l (unitL n a) from fun h => by rw [← hX]; unfold exL; rw [← HC2.out, if_pos h]; rfl)
      rw [hX] at HE2
      have HD : Hid (slD ((n : Nat) : Int).toNat l = slD n l) := hid rfl
      clear hX hO2 hO2' hset hB2 hU2 hml hbg hlt1 hB1 hU1 hu2 hB hcm
      go_wp2_with (first
        | ((with_reducible apply ldM_P); exact rfl; exact rfl; exact gB; exact rfl)
        | (go_at_call 32; (with_reducible refine HE2.out.mono ?_); rintro r w3 ⟨z3, u3, rfl, hu3, hF3, hz3, he3⟩; obtain ⟨p3, c3, rfl⟩ := hF3.slice))
      go_ret2
      exact ⟨.slice p3 X.length c3, _, rfl, gU.trans hu3, he3, hz3, fun h => by rw [HX.out h] at hF3 ⊢; exact hF3⟩
    · have HC2 : Hid (C = 20) := hid (by rw [← HC.out]; unfold clC; rw [hR, if_pos rfl, if_neg hin])
      by_cases h0 : i < 0
      · have d1 : decide (i < 0) = true := decide_eq_true h0
        clear hR hin hi h0
        go_enter Tryz.func42, Tryz.ntmps42
        go_wp2_with (first
          | ((with_reducible apply ldM_P); exact rfl; exact rfl; exact hB; exact rfl)
          | (go_at_call 81; (with_reducible refine (HF.out _ hU).mono ?_); rintro r w1 ⟨u1, rfl, hu1, h1⟩; obtain rfl := h1.elim (fun h => h.2) (fun h => absurd rfl h.1); have hcm := (hB.up hu1).cell 0 rfl)
          | (go_at_call 75; (with_reducible refine (HW20.out _).mono ?_); rintro r w2 ⟨u2, rfl, hu2, h2⟩))
        go_ret2
        exact ⟨_, _, rfl, (hU.trans hu1).trans hu2, by rw [HC2.out]; exact h2, fun _ => rfl, fun h => by rw [HC2.out] at h; omega⟩
      · have d1 : decide (i < 0) = false := decide_eq_false h0
        have d2 : decide ((n : Int) ≤ i) = true := decide_eq_true (by omega)
        clear hR hin hi h0
        go_enter Tryz.func42, Tryz.ntmps42
        go_wp2_with (first
          | ((with_reducible apply ldM_P); exact rfl; exact rfl; exact hB; exact rfl)
          | (go_at_call 81; (with_reducible refine (HF.out _ hU).mono ?_); rintro r w1 ⟨u1, rfl, hu1, h1⟩; obtain rfl := h1.elim (fun h => h.2) (fun h => absurd rfl h.1); have hcm := (hB.up hu1).cell 0 rfl)
          | (go_at_call 75; (with_reducible refine (HW20.out _).mono ?_); rintro r w2 ⟨u2, rfl, hu2, h2⟩))
        go_ret2
        exact ⟨_, _, rfl, (hU.trans hu1).trans hu2, by rw [HC2.out]; exact h2, fun _ => rfl, fun h => by rw [HC2.out] at h; omega⟩
theorem fA_zero : fA 0 0 = #[.int .u64 0, .int .u64 0, .int .u64 0, .int .u64 0, .int .u64 0, .int .u64 0, .int .u64 0, .int .u64 0, .int .u64 0, .int .u64 0, .int .u64 0, .int .u64 0, .int .u64 0, .int .u64 0, .int .u64 0, .int .u64 0, .int .u64 0, .int .u64 0, .int .u64 0, .int .u64 0, .int .u64 0, .int .u64 0, .int .u64 0, .int .u64 0, .int .u64 0, .int .u64 0, .int .u64 0, .int .u64 0, .int .u64 0, .int .u64 0, .int .u64 0, .int .u64 0] := by
  unfold fA
  rw [← zero_limb, ← zeros16]
  rfl
theorem resF {w : World} {fn : Func} {p u : Tmp} (h : fn.results = #[.cell p 76, .tmp u]) (tmps : Array Value) (g : Nat) (hp : tmps.getD p undef = .pointer (some ⟨g, 0, none⟩))
    {z D : Int} (hC : Blk w g 76 (fA z D)) : (results fn tmps).run Tryz.prog w = .ok (.tuple #[.agg (fA z D), tmps.getD u undef]) w := by
  obtain ⟨fs, hu⟩ := undF
  rw [results_cell_tmp h, hp]
  simp only [asAddr, Sem.run_pure, Result.andThen_ok, run_loadVar_row w g _ 76 (fA z D) (0, 0) _ hC hu rfl (by rw [infoF1, fA_size])]
theorem ErrsP.setRowF {B : ByteArray} {w : World} {g : Nat} {C D : Array Value} {u : Value} {e : Int} (h : ErrsP B w u e) (hB : Blk w g 76 C) : ErrsP B (w.setRow g D) u e := by
  rcases h with h | ⟨h1, t, x, rfl, h2⟩
  · exact .inl h
  · refine .inr ⟨h1, t, x, rfl, ?_⟩
    obtain ⟨b, v, e1, e2, e3⟩ := h2
    refine ⟨b, v, e1, e2.row_other _ ?_, e3⟩
    rintro rfl
    unfold Blk at e2 hB
    rw [hB] at e2
    simp at e2
def qdS (h : List Int) (X : Nat → Int) (k : Nat) : Int := sumN k fun i => zth h i * X i
theorem qdS_bp {h : List Int} {X : Nat → Int} (hh : ∀ i, (zth h i).natAbs ≤ 72057594037927936) (hX : ∀ i, (X i).natAbs < bp 5) : ∀ k, k ≤ 8 → (qdS h X k).natAbs < bp 7 ∧ (zth h k * X k).natAbs < bp 6 := by
  have e7 : bp 7 = bp 6 * 18446744073709551616 := bp_succ 6
  have hp : ∀ j, (zth h j * X j).natAbs < bp 6 := fun j => by
    have h1 := hh j
    have h2 := hX j
    have e6 : bp 6 = bp 5 * 18446744073709551616 := bp_succ 5
    rw [Int.natAbs_mul, e6, Nat.mul_comm]
    exact Nat.mul_lt_mul_of_lt_of_lt h2 (by omega)
  have key : ∀ k, (qdS h X k).natAbs ≤ k * bp 6 := by
    intro k
    induction k with
    | zero => exact Nat.zero_le _
    | succ k ih =>
      have h2 := hp k
      have h3 := Int.natAbs_add_le (qdS h X k) (zth h k * X k)
      show (qdS h X k + zth h k * X k).natAbs ≤ _
      rw [Nat.succ_mul]
      omega
  intro k hk
  refine ⟨?_, hp k⟩
  have h1 := key k
  have h2 : k * bp 6 ≤ 8 * bp 6 := Nat.mul_le_mul_right _ hk
  have h3 := bp_pos 6
  omega
def quN (N : Int) (l h : List Int) : Int := if slC N l h = 0 then qdS h (slX N.toNat l h) N.toNat else 0
def quD (N : Int) (l h : List Int) : Int := if slC N l h = 0 then slD N.toNat l else 0
def QuadPost (w : World) (N : Int) (l h : List Int) (r : Ending) (w' : World) : Prop := ∃ u, r = .returned (.tuple #[.agg (fA (quN N l h) (quD N l h)), u]) ∧ Up w w' ∧ ErrsP solveB w' u (slC N l h)
set_option maxHeartbeats 16000000 in
theorem quad_any {v xv : Value} {N : Int} {l x : List Int} {w : World} (hm : Sm w v N l) (hx : Vw w xv x) (hI : In64 x) (hs : x.length ≤ 1000) :
    Calls Tryz.prog 39 #[v, xv] w (QuadPost w N l x) := by
  have HSO := hid (fun w' (hu : Up w w') => solvable_any (hm.up hu) (hx.up hu) hI hs)
  have HSN := hid (fun (n : Nat) (hN : N = (n : Int)) (hD : Def n l x) (hxl : x.length = n) w' (hu : Up w w') => solution_any (hN ▸ hm.up hu) hD (hx.up hu) hxl hI)
  have HI := hid hI
  have HXC := hid (fun w' (hu : Up w w') => Vw.up hu hx)
  obtain ⟨px, cx, rfl, -, -⟩ := hx
  obtain ⟨s, rfl, ⟨p, cap, rfl, -, -⟩, -, -, -⟩ := hm
  obtain ⟨W0, hW0⟩ : ∃ y, (w.alloc (.cells #[.int .i64 N, .slice p l.length cap] 24)).alloc (.cells (fA 0 0) 76) = y := ⟨_, rfl⟩
  have hB : Blk W0 w.heap.size 24 #[.int .i64 N, .slice p l.length cap] := by rw [← hW0]; exact (Blk.new _ _ rfl).old _
  have hQ : Blk W0 (w.heap.size + 1) 76 (fA 0 0) := by rw [← hW0]; exact Blk.new _ _ (by simp)
  have hU : Up w W0 := by rw [← hW0]; exact (Up.alloc _ _).trans (Up.alloc _ _)
  rw [fA_zero] at hW0
  unfold QuadPost
  obtain ⟨C, hC⟩ : ∃ C, slC N l x = C := ⟨_, rfl⟩
  obtain ⟨QN, hQN⟩ : ∃ y, quN N l x = y := ⟨_, rfl⟩
  obtain ⟨QD, hQD⟩ : ∃ y, quD N l x = y := ⟨_, rfl⟩
  have HC := hid hC
  have HQN := hid hQN
  have HQD := hid hQD
  rw [hC] at HSO ⊢
  rw [hQN, hQD]
  clear hC hQN hQD hI hs
  go_enter Tryz.func39, Tryz.ntmps39
  go_upto_region 2 with (first
    | ((with_reducible apply ldM_P); exact rfl; exact rfl; exact hB; exact rfl)
    | (go_at_call 70; (with_reducible refine (HSO.out _ hU).mono ?_); rintro r w1 ⟨u1, rfl, hu1, h1⟩; have hB1 := hB.up hu1; have hU1 := hU.trans hu1; have hQ1 := hQ.up hu1))
  rcases h1 with ⟨h0, rfl⟩ | ⟨h0, t, y, rfl, hE⟩
  · obtain ⟨n, rfl, hD, hxl⟩ := slC_def (HC.out.trans h0)
    have hn8 := hD.n8
    have HN2 : Hid (QN = qdS x (slX n l x) n) := hid (by rw [← HQN.out]; unfold quN; rw [if_pos (HC.out.trans h0)]; rfl)
    have HD2 : Hid (QD = slD n l) := hid (by rw [← HQD.out]; unfold quD; rw [if_pos (HC.out.trans h0)]; rfl)
    have HSN2 := hid (HSN.out n rfl hD hxl)
    rw [hxl] at HSN2 ⊢
    have hln : (slL n l x).length = n := mk_len _ _
    have HLn := hid hln
    have HAt := hid (fun i (hi : i < n) => show zth (slL n l x) i = slX n l x i from mk_at hi)
    have HQb := hid (qdS_bp hD.vec (fun j => hD.num_bp j))
    have HOV := hid (fun i (hi : i < n) w => of_any (zth x i) (HI.out i (by omega)).1 (HI.out i (by omega)).2 w)
    have HXb := hid (fun i => hD.num_bp i)
    have HVb := hid (fun i (hi : i < n) => (HI.out i (by omega) : I64 (zth x i)))
    have HXL := hid hxl
    have H0 := hid h0
    clear HSN hD hxl h0 hln
    obtain ⟨D, hDd⟩ : ∃ D, slD n l = D := ⟨_, rfl⟩
    rw [hDd] at HSN2 HD2
    clear hDd
    unfold wideV at *
    go_wp2_with (first
      | ((with_reducible apply ldM_P); exact rfl; exact rfl; exact hB1; exact rfl)
      | (go_at_call 71; (with_reducible refine (HSN2.out _ hU1).mono ?_); rintro r w2 ⟨z2, b2, rfl, hu2, hb2, hO2⟩; obtain ⟨pz, cz, rfl⟩ := hO2.slice; have hU2 := hU1.trans hu2; have hQ2 := hQ1.up hu2)
      | ((with_reducible apply st_rowP infoW); exact rfl; exact rfl; exact row_newz _ rfl
         refine wpL_folded (fun wd => Up w2 wd ∧ Row wd w2.heap.size 33 16 (limb (enc D))) ⟨gUp, gRow⟩ ?_
         rintro wL ⟨hXL, hDen⟩
         have hO3 := hO2.up hXL
         have hU3 := hU2.trans hXL
         have hQ3 := hQ2.up hXL
         rw [HLn.out]
         obtain ⟨wI, hwI⟩ : ∃ y, wL.alloc (.cells (cells 16 (fun _ => 0)) 33) = y := ⟨_, rfl⟩
         have hG0 : Row wI wL.heap.size 33 16 (limb (enc 0)) := by rw [← hwI]; show Blk _ _ _ (cells 16 (limb (enc 0))); rw [← zero_limb]; exact Blk.new _ _ rfl
         have hUI : Up wL wI := by rw [← hwI]; exact Up.alloc _ _
         rw [← zeros16] at hwI))
    obtain ⟨bG, hbG⟩ : ∃ y, wL.heap.size = y := ⟨_, rfl⟩
    rw [hbG] at hG0 ⊢
    obtain ⟨bD, hbD⟩ : ∃ y, w2.heap.size = y := ⟨_, rfl⟩
    rw [hbD] at hDen ⊢
    have hwB : w.heap.size ≤ wL.heap.size := hU3.size
    have hlQ := hQ3.lt
    have HO3 := hid hO3
    have HXC2 := hid (fun w' (hu : Up wL w') i (hi : i < n) => show ∃ ad, px = some ad ∧ w'.cell? (ad.add i) = some (.int .i64 (zth x i)) from by
      obtain ⟨q', cq', xq, _, hcq⟩ := HXC.out _ (hU3.trans hu)
      injection xq with y1 y2 y3
      subst y1
      obtain ⟨ad, h1, h2⟩ := hcq i (by rw [HXL.out]; exact hi)
      exact ⟨ad, h1, h2⟩)
    clear hbD hO3 hO2 hXL hwI hQ2 hU2 hu2 hb2 hQ1 hU1 hB1 hu1 hW0 hB hQ hU HXC HSO HSN2
    go_wp2_with fail
    go_loopg [27] n (fun g ti wr => ∃ i : Nat, i ≤ n ∧ n - i ≤ g ∧ ti = .int .i64 (i : Nat) ∧ Row wr bG 33 16 (limb (enc (qdS x (slX n l x) i))) ∧ Up wL wr)
    case atStart => exact ⟨0, Nat.zero_le _, by omega, rfl, hG0, hUI⟩
    case round =>
      clear hG0 hUI
      obtain ⟨i, hi, hig, rfl, hG, hu⟩ := hrel
      have hDr := hDen.up hu
      obtain ⟨hs7, hp6⟩ := HQb.out i (by omega)
      by_cases hlt : i < n
      · obtain ⟨gZ, cZ, CZ, hv, -, hBZ, -, -, -, htZ⟩ := HO3.out.open (by rw [HLn.out]; omega)
        rw [HLn.out] at hv
        injection hv with x1 x2 x3
        subst x1 x3
        have HRng := hid (fun w' (hB : Blk w' gZ 33 CZ) => HAt.out i hlt ▸ wv_range hB htZ (by rw [HLn.out]; exact hlt))
        have hBZr := hBZ.up hu
        obtain ⟨ad, rfl, hck⟩ := HXC2.out _ hu i hlt
        have hs72 := (HQb.out (i + 1) (by omega)).1
        have HOf := hid (HOV.out i hlt)
        have hv64 := HVb.out i hlt
        have HTm := hid (fun w => stimes_any (w := w) (inR_bp (k := 1) (by omega) (i64_bp hv64)) (inR_bp (k := 5) (by omega) (HXb.out i)) (inR_bp (k := 6) (by omega) hp6))
        have hqs : qdS x (slX n l x) (i + 1) = qdS x (slX n l x) i + zth x i * slX n l x i := rfl
        have HPl := hid (fun w => splus_any (w := w) (inR_bp (k := 7) (by omega) hs7) (inR_bp (k := 6) (by omega) hp6) (hqs ▸ inR_bp (k := 7) (by omega) hs72))
        have HQs := hid hqs
        have e1 : IntKind.i64.wrap ((i : Int) + 1) = (i : Int) + 1 := IntWalk.i64_in _ (by omega)
        clear hs72 hs7 hp6 hv64 hqs htZ x2 hBZ
        obtain ⟨vi, hvi⟩ : ∃ y, zth x i = y := ⟨_, rfl⟩
        rw [hvi] at hck HOf HTm HPl HQs
        clear hvi
        obtain ⟨xi, hxi⟩ : ∃ y, slX n l x i = y := ⟨_, rfl⟩
        rw [hxi] at HRng HTm HPl HQs
        clear hxi
        obtain ⟨S1, hS1e⟩ : ∃ y, qdS x (slX n l x) i = y := ⟨_, rfl⟩
        rw [hS1e] at hG HPl HQs
        clear hS1e
        obtain ⟨pr, hpr⟩ : ∃ y, vi * xi = y := ⟨_, rfl⟩
        rw [hpr] at HTm HPl HQs
        clear hpr
        obtain ⟨S2, hS2e⟩ : ∃ y, S1 + pr = y := ⟨_, rfl⟩
        rw [hS2e] at HPl HQs
        clear hS2e
        (try unfold wideV at HOf); (try unfold wideV at HTm); (try unfold wideV at HPl)
        go_wp2_with (first
          | ((with_reducible apply ldW_P); exact rfl; exact rfl; exact HRng.out _ hBZr)
          | ((with_reducible apply st_rowP infoW); exact rfl; exact rfl; exact row_newz _ rfl
             refine wpL_folded (fun wd => Up wr wd ∧ Row wd wr.heap.size 33 16 (limb (enc xi))) ⟨gUp, gRow⟩ ?_
             rintro wM ⟨hXM, hNum⟩
             have hckM := hXM.cellEq hck
             have hGM := hG.up hXM))
        refine wp_region_upH (S := (fun wq => Row wq bG 33 16 (limb (enc S1)) ∧ Row wq wr.heap.size 33 16 (limb (enc xi)) ∧ wq.cell? (ad.add i) = some (.int .i64 vi) ∧ Up wM wq ∧ Below w.heap.size w wq)) (req := (fun j => j != 9)) (by kernel_rfl) (fun _ _ h hu => ⟨(h.1).up hu, (h.2.1).up hu, hu.cell (h.2.2.1), (h.2.2.2.1).trans hu, below_up (h.2.2.2.2) hu⟩) ⟨gRow, gRow, (by first | assumption | (apply Blk.cell; exact gBlk; exact rfl)), (by first | exact Up.refl _ | assumption), gUp⟩ (fun wS hSS hSu => ?_)
        have ⟨hS1, hS2, hS3, hS4, hSB⟩ := hSS
        refine wpAnyU_take (i := 0) (d := (some 32)) (v := _) rfl rfl (by kernel_rfl) (fun _ _ _ h => h) hSu.out hSS (Or.inl ⟨by rfl, fun w' hSw => yu_value (run_ld undW infoW _ rfl _ rfl hSw.1)⟩) ?_
        try simp only [Act.put, pu1, pu2, pu3]
        refine wpAnyU_pure (i := 1) (d := (some 33)) (v := ?_) rfl rfl (by kernel_rfl) (fun _ _ _ h => h) hSu.out (Or.inl ⟨by rfl, fun w' _ => yu_value ?_⟩) ?_
        rotate_left
        · (go_simp; (try exact rfl))
        try simp only [Act.put, pu1, pu2, pu3]
        refine wpAnyU_pure (i := 2) (d := (some 34)) (v := ?_) rfl rfl (by kernel_rfl) (fun _ _ _ h => h) hSu.out (Or.inl ⟨by rfl, fun w' _ => yu_value ?_⟩) ?_
        rotate_left
        · (go_simp; (try exact rfl))
        try simp only [Act.put, pu1, pu2, pu3]
        refine wpAnyU_pure (i := 3) (d := (some 35)) (v := ?_) rfl rfl (by kernel_rfl) (fun _ _ _ h => h) hSu.out (Or.inl ⟨by rfl, fun w' _ => yu_value ?_⟩) ?_
        rotate_left
        · (go_simp; (try exact rfl))
        try simp only [Act.put, pu1, pu2, pu3]
        refine wpAnyU_take (i := 4) (d := (some 36)) (v := ?_) rfl rfl (by kernel_rfl) (fun _ _ _ h => h) hSu.out hSS (Or.inl ⟨by rfl, fun w' hSw => yu_value ?_⟩) ?_
        rotate_left
        · ((try dsimp only at hSw); (try obtain ⟨_, _, _, _, _⟩ := hSw); go_simp; (try exact rfl))
        try simp only [Act.put, pu1, pu2, pu3]
        refine wpAnyU_take (i := 5) (d := (some 37)) (v := _) rfl rfl (by kernel_rfl) (fun _ _ _ h => h) hSu.out hSS (Or.inl ⟨by rfl, fun w' hSw => yu_call ?_ (HOf.out _)⟩) ?_
        · go_simp
        try simp only [Act.put, pu1, pu2, pu3]
        refine wpAnyU_take (i := 6) (d := (some 38)) (v := _) rfl rfl (by kernel_rfl) (fun _ _ _ h => h) hSu.out hSS (Or.inl ⟨by rfl, fun w' hSw => yu_value (run_ld undW infoW _ rfl _ rfl hSw.2.1)⟩) ?_
        try simp only [Act.put, pu1, pu2, pu3]
        refine wpAnyU_take (i := 7) (d := (some 39)) (v := _) rfl rfl (by kernel_rfl) (fun _ _ _ h => h) hSu.out hSS (Or.inl ⟨by rfl, fun w' hSw => yu_call ?_ (HTm.out _)⟩) ?_
        · go_simp
        try simp only [Act.put, pu1, pu2, pu3]
        refine wpAnyU_take (i := 8) (d := (some 40)) (v := _) rfl rfl (by kernel_rfl) (fun _ _ _ h => h) hSu.out hSS (Or.inl ⟨by rfl, fun w' hSw => yu_call ?_ (HPl.out _)⟩) ?_
        · go_simp
        try simp only [Act.put, pu1, pu2, pu3]
        refine wpAnyU_one (i := 9) rfl (by kernel_rfl) (by rfl) fun w4 hw4 => ?_
        refine wp_st_rowN infoW rfl _ _ rfl _ rfl rfl ((hS1.up hw4)) ?_
        refine ⟨fun h => by simp at h, ?_⟩
        try simp only [Act.put, pu1, pu2, pu3]
        refine wpAnyU_done (by kernel_rfl) (fun wF huE => ?_) _
        have gG := ((hS1.up hw4).setRow (limb (enc S2))).up huE
        have gU := Up.trans (below_setRow (hu.trans (hXM.trans (hS4.trans hw4))) (show wL.heap.size ≤ bG by omega) (cells 16 (limb (enc S2)))) huE
        clear hS1 hS2 hS3 hS4 hSB hSS hw4 huE
        go_wp2_with fail
        go_roundg (n - (i + 1))
        case measure => omega
        case rel => exact ⟨i + 1, hlt, Nat.le_refl _, rfl, by rw [HQs.out]; exact gG, gU⟩
      · obtain rfl : i = n := by omega
        have hQr := hQ3.up hu
        have hUr := hU3.trans hu
        obtain ⟨S1, hS1e⟩ : ∃ y, qdS x (slX i l x) i = y := ⟨_, rfl⟩
        rw [hS1e] at hG HN2
        clear hS1e hs7 hp6
        go_wp2_with (first
          | ((with_reducible apply ld_rowP undW infoW); exact rfl; exact rfl; exact gRow)
          | ((with_reducible apply bdF_P (z := S1) (D := D)); exact rfl; exact rfl; exact rfl)
          | ((with_reducible apply stF_P (z := S1) (D := D)); exact rfl; exact rfl; exact hQr; exact fA_size 0 0))
        exact bodyPost_ret (resF rfl _ _ rfl (Blk.setRow hQr _)) rfl ⟨.nilIface, by rw [HN2.out, HD2.out]; rfl, below_setRow hUr (by omega) _, .inl ⟨H0.out, rfl⟩⟩
  · have HC2 := hid h0
    have HN2 : Hid (QN = 0) := hid (by rw [← HQN.out]; unfold quN; rw [HC.out]; exact if_neg h0)
    have HD2 : Hid (QD = 0) := hid (by rw [← HQD.out]; unfold quD; rw [HC.out]; exact if_neg h0)
    clear h0
    go_wp2_with (first
      | ((with_reducible apply stF_P (z := 0) (D := 0)); exact rfl; (focus (rw [fA_zero]; exact rfl)); exact hQ1; exact fA_size 0 0))
    exact bodyPost_ret (resF rfl _ _ rfl (Blk.setRow hQ1 _)) rfl ⟨.iface t y, by rw [HN2.out, HD2.out]; rfl, below_setRow hU1 (by omega) _, ErrsP.setRowF (.inr ⟨HC2.out, t, y, rfl, hE⟩) hQ1⟩
theorem run_eqWself (d : Nat) (f : Nat → Nat) (w : World) : (Op.equalIn (d + 1 + 1) 33 (.agg (cells 16 f)) (.agg (cells 16 f))).run Tryz.prog w = .ok true w := by
  obtain ⟨i, hi⟩ := Option.isSome_iff_exists.1 (show (Tryz.prog.info? 31).isSome = true by kernel_rfl)
  have hc : Tryz.prog.cellsOf 31 = 1 := by kernel_rfl
  rw [run_equalIn_array w (d + 1) _ _ undW hi, hc, run_eqItems f f 16 d w (List.range 16) (by simp)]
  simp
theorem run_partN (f g : Nat → Nat) (w : World) : (part 33 (cells 16 f ++ cells 16 g) 0).run Tryz.prog w = .ok (.agg (cells 16 f)) w := by
  unfold cells
  kernel_rfl
theorem run_partD (f g : Nat → Nat) (w : World) : (part 33 (cells 16 f ++ cells 16 g) 16).run Tryz.prog w = .ok (.agg (cells 16 g)) w := by
  unfold cells
  kernel_rfl
theorem fieldsF : ((Tryz.prog.fieldsOf 76).toList.map fun f => (f.name == "_", f.type, f.offset)) = [(false, 33, 0), (false, 33, 16)] := by kernel_rfl
theorem run_eqlF (z D : Int) (w : World) : (binOp .eql 76 (.agg (fA z D)) (.agg (fA z D))).run Tryz.prog w = .ok (.bool true) w := by
  have ht : Tryz.prog.underlying 76 = some (.struct (Tryz.prog.fieldsOf 76)) := by
    obtain ⟨fs, hu⟩ := undF
    unfold Program.fieldsOf
    rw [hu]
  have hp : Tryz.prog.stoodInHeld 76 = false := by kernel_rfl
  have hf := fieldsF
  rw [run_eql_struct, show (10000 : Nat) = 9997 + 1 + 1 + 1 from rfl, run_equalIn_struct w (9997 + 1 + 1) _ _ _ ht hp]
  generalize (Tryz.prog.fieldsOf 76).toList = L at hf
  rcases L with _ | ⟨a, _ | ⟨b, _ | ⟨c, L⟩⟩⟩
  · simp at hf
  · simp at hf
  · simp only [List.map_cons, List.map_nil, List.cons.injEq, Prod.mk.injEq, and_true, beq_eq_false_iff_ne] at hf
    obtain ⟨⟨a1, a2, a3⟩, b1, b2, b3⟩ := hf
    unfold fA
    unfold Op.eqFields
    rw [if_pos a1, a2, a3]
    simp only [Sem.run_bind, run_partN, Result.andThen_ok, run_eqWself, Bool.not_true, Bool.false_eq_true, if_false]
    unfold Op.eqFields
    rw [if_pos b1, b2, b3]
    simp only [Sem.run_bind, run_partD, Result.andThen_ok, run_eqWself, Bool.not_true, Bool.false_eq_true, if_false]
    unfold Op.eqFields
    rfl
  · simp at hf
theorem run_eqFE {o : Oper} {ev : Operand → Value} {x y : Operand} {u : TypeId} (ho : o.op = .binOp .eql 76 x y u) {z D : Int} (hx : ev x = .agg (fA z D)) (hy : ev y = .agg (fA z D)) (w : World) :
    (execOp ev o).run Tryz.prog w = .ok (.value (.bool true)) w := by
  unfold execOp
  simp only [ho, hx, hy, Sem.run_bind, run_eqGuard_agg _ _ _ _ _ _ _ (show Tryz.prog.eqGuardType Tryz.prog.depth 76 = false by kernel_rfl), Result.andThen_ok, run_eqlF, Sem.run_pure]
theorem slC_unit {n : Nat} {l : List Int} (hR : rt n l = true) (a : Nat) : slC n l (unitL n a) = if dfV n l = true then 0 else 30 := by
  have h : ftC n l [unitL n a] = 0 := by
    unfold ftC
    rw [if_pos ⟨hR, fun i hi => by
      obtain rfl : i = 0 := by simp at hi; omega
      show (((unitL n a).length : Nat) : Int) = _; rw [unit_len]⟩]
    refine if_pos fun i hi => ?_
    obtain rfl : i = 0 := by simp at hi; omega
    refine List.all_eq_true.2 fun y hy => ?_
    obtain ⟨j, hj, rfl⟩ := List.mem_iff_getElem.1 hy
    have hj' : j < (unitL n a).length := hj
    have h1 : zth (unitL n a) j = if j = a then 1 else 0 := by unfold unitL; rw [mk_at (by rw [← unit_len n a]; exact hj')]
    rw [zth_get hj'] at h1
    show vfit (unitL n a)[j] = true
    rw [h1]
    split <;> rfl
  unfold slC
  rw [if_pos h]
theorem col_ok {v : Value} {n a : Nat} {l : List Int} {w : World} (hm : Sm w v n l) (hR : rt n l = true) (ha : a < n) (hd : dfV n l = true) :
    Calls Tryz.prog 42 #[v, .int .i64 (a : Nat)] w fun r w' => ∃ p c, r = .returned (.tuple #[.slice p n c, .nilIface]) ∧ Up w w' ∧ Fv w' (.slice p n c) (slD n l) (slL n l (unitL n a)) := by
  have n8 := (rt_spec hR).2.1
  have h0 : clC n l a = 0 := by unfold clC; rw [hR, if_pos rfl, if_pos (by omega)]; show slC n l (unitL n a) = 0; rw [slC_unit hR, if_pos hd]
  refine (column_any (a : Int) hm (by unfold I64; omega)).mono ?_
  rintro r w' ⟨z, u, rfl, hu, he, -, hF⟩
  have hF := hF h0
  obtain ⟨p, c, rfl⟩ := hF.slice
  have hF' : Fv w' (.slice p (slL n l (unitL n a)).length c) (slD n l) (slL n l (unitL n a)) := hF
  have hl : (slL n l (unitL n a)).length = n := mk_len _ _
  rw [hl] at hF'
  have e : (slL ((n : Nat) : Int).toNat l (unitL ((n : Nat) : Int).toNat ((a : Nat) : Int).toNat)).length = n := hl
  rw [e]
  rw [h0] at he
  rcases he with ⟨-, rfl⟩ | ⟨h, -⟩
  · exact ⟨p, c, rfl, hu, hF'⟩
  · exact absurd rfl h
theorem col_bad {v : Value} {n a : Nat} {l : List Int} {w : World} (hm : Sm w v n l) (hR : rt n l = true) (ha : a < n) (hd : dfV n l = false) :
    Calls Tryz.prog 42 #[v, .int .i64 (a : Nat)] w fun r w' => ∃ t y, r = .returned (.tuple #[.slice none 0 0, .iface t y]) ∧ Up w w' ∧ ErrsP solveB w' (.iface t y) 30 := by
  have n8 := (rt_spec hR).2.1
  have h0 : clC n l a = 30 := by unfold clC; rw [hR, if_pos rfl, if_pos (by omega)]; show slC n l (unitL n a) = 30; rw [slC_unit hR, hd]; rfl
  refine (column_any (a : Int) hm (by unfold I64; omega)).mono ?_
  rintro r w' ⟨z, u, rfl, hu, he, hz, -⟩
  obtain rfl := hz (by rw [h0]; decide)
  rw [h0] at he
  obtain ⟨t, y, rfl⟩ := he.iface (by decide)
  exact ⟨t, y, rfl, hu, he⟩
theorem qdS_unit {n a : Nat} (X : Nat → Int) (ha : a < n) : qdS (unitL n a) X n = X a := by
  unfold qdS
  rw [sumN_one (p := a) ha fun i hi h => by unfold unitL; rw [mk_at hi, if_neg h, Int.zero_mul]]
  unfold unitL
  rw [mk_at ha, if_pos rfl, Int.one_mul]
theorem quad_ok {v xv : Value} {n a : Nat} {l : List Int} {w : World} (hm : Sm w v n l) (hR : rt n l = true) (ha : a < n) (hd : dfV n l = true) (hx : Vw w xv (unitL n a)) :
    Calls Tryz.prog 39 #[v, xv] w fun r w' => r = .returned (.tuple #[.agg (fA (slX n l (unitL n a) a) (slD n l)), .nilIface]) ∧ Up w w' := by
  have n8 := (rt_spec hR).2.1
  have h0 : slC n l (unitL n a) = 0 := by rw [slC_unit hR, if_pos hd]
  refine (quad_any hm hx (unit_in n a) (by rw [unit_len]; omega)).mono ?_
  rintro r w' ⟨u, rfl, hu, he⟩
  have e1 : quN n l (unitL n a) = slX n l (unitL n a) a := by unfold quN; rw [if_pos h0]; exact qdS_unit _ ha
  have e2 : quD n l (unitL n a) = slD n l := by unfold quD; rw [if_pos h0]; rfl
  rw [e1, e2]
  rw [h0] at he
  rcases he with ⟨-, rfl⟩ | ⟨h, -⟩
  · exact ⟨rfl, hu⟩
  · exact absurd rfl h
theorem quad_bad {v xv : Value} {n a : Nat} {l : List Int} {w : World} (hm : Sm w v n l) (hR : rt n l = true) (hd : dfV n l = false) (hx : Vw w xv (unitL n a)) :
    Calls Tryz.prog 39 #[v, xv] w fun r w' => ∃ t y, r = .returned (.tuple #[.agg (fA 0 0), .iface t y]) ∧ Up w w' ∧ ErrsP solveB w' (.iface t y) 30 := by
  have n8 := (rt_spec hR).2.1
  have h0 : slC n l (unitL n a) = 30 := by rw [slC_unit hR, hd]; rfl
  refine (quad_any hm hx (unit_in n a) (by rw [unit_len]; omega)).mono ?_
  rintro r w' ⟨u, rfl, hu, he⟩
  have e1 : quN n l (unitL n a) = 0 := by unfold quN; rw [h0]; rfl
  have e2 : quD n l (unitL n a) = 0 := by unfold quD; rw [h0]; rfl
  rw [e1, e2]
  rw [h0] at he
  obtain ⟨t, y, rfl⟩ := he.iface (by decide)
  exact ⟨t, y, rfl, hu, he⟩
set_option maxHeartbeats 16000000 in
theorem sides_w {w : World} {vh : Value} {hs : List Int} (n d i j : Nat) (hg : Glob w)
    (hn : n < 256) (hd : d < 65536) (hvh : Vh w vh hs) (h16 : In16 hs) (hi : i < 256) (hj : j < 256) :
    Calls Tryz.prog 11 #[.int .u8 (n : Nat), .int .u16 (d : Nat), vh, .int .u8 (i : Nat), .int .u8 (j : Nat)] w fun r w' => r = .returned (.bool true) ∧ Up w w' := by
  have HK := hid (fun w' (hu : Up w w') => sknown_true (hg.up hu))
  have HG := hid (fun w' (hu : Up w w') => hg.up hu)
  obtain ⟨ph, ch, rfl, hhc⟩ := hvh
  by_cases hC : hs.length ≤ 60
  · have d60 : decide ((60 : Int) < (hs.length : Int)) = false := decide_eq_false (by omega)
    have HST := hid (fun w' (hu : Up w w') => seat_any n d hn hd (show Vh w' (.slice ph hs.length ch) hs from ⟨ph, ch, rfl, fun i hi => by obtain ⟨a, h1, h2⟩ := hhc i hi; exact ⟨a, h1, hu.cellEq h2⟩⟩) h16 hC)
    have HIJ := hid (show i < 256 ∧ j < 256 from ⟨hi, hj⟩)
    clear hhc h16 hg hn hd hi hj
    go_enter Tryz.func11, Tryz.ntmps11
    go_upto_region 6 with (first
      | (go_at_call 30; (with_reducible refine (HK.out _ (Up.refl _)).mono ?_); rintro r w1 ⟨rfl, hu1⟩)
      | (go_at_call 13; (with_reducible refine (HST.out _ hu1).mono ?_); rintro r w2 ⟨z, N, L, rfl, hu2, hs2, hR⟩; obtain ⟨m0, m8, -, -⟩ := rt_spec hR; obtain ⟨m, rfl⟩ : ∃ m : Nat, N = (m : Int) := ⟨N.toNat, by omega⟩; have hs2' := hs2; obtain ⟨s, base, rfl, hO2, hr2⟩ := hs2'; obtain ⟨p2, n2, c2, rfl⟩ := OwnI.slice hO2)
      | ((with_reducible apply stM_P); exact rfl; exact rfl; exact Blk.new _ _ rfl; exact rfl; exact rfl; exact two2 _ _ _ _ _
         have hub := below_setRow (Up.alloc w2 (.cells #[.int .i64 0, .slice none 0 0] 24)) (Nat.le_refl _) #[.int .i64 (m : Int), .slice p2 n2 c2]
         have hB := (Blk.new (w := w2) (b := w2.heap.size) 24 #[.int .i64 0, .slice none 0 0] rfl).setRow #[.int .i64 (m : Int), .slice p2 n2 c2]
         have hS := hs2.sm.up hub
         have hU := (hu1.trans hu2).trans hub
         obtain ⟨wA, hwA⟩ : ∃ x, (w2.alloc (.cells #[.int .i64 0, .slice none 0 0] 24)).setRow w2.heap.size #[.int .i64 (m : Int), .slice p2 n2 c2] = x := ⟨_, rfl⟩
         obtain ⟨bm, hbm⟩ : ∃ x, w2.heap.size = x := ⟨_, rfl⟩
         rw [hwA] at hB hS hU ⊢
         rw [hbm] at hB ⊢
         clear hub hwA hbm hs2 hO2 hu1 hu2))
    have hcm := hB.cell 0 rfl
    have HRt := hid hR
    have m8' : m ≤ 8 := by omega
    have HSm := hid hS
    clear HST HK d60 hr2 m0 m8 hS
    rcases Nat.eq_zero_or_pos m with hm0 | hm0
    · subst hm0
      go_wp2_with fail
      go_ret
      exact ⟨rfl, hU⟩
    · have dm : ((m : Int) == 0) = false := by simp; omega
      go_upto_region 8 with fail
      have ei : IntKind.i64.wrap (i : Int) = i := IntWalk.i64_in _ (by have := HIJ.out; omega)
      have ej : IntKind.i64.wrap (j : Int) = j := IntWalk.i64_in _ (by have := HIJ.out; omega)
      obtain ⟨a, ha⟩ : ∃ a, i % m = a := ⟨_, rfl⟩
      obtain ⟨b, hb⟩ : ∃ b, j % m = b := ⟨_, rfl⟩
      have ta : (i : Int).tmod (m : Int) = (a : Int) := by rw [← Int.ofNat_tmod, ha]
      have tb : (j : Int).tmod (m : Int) = (b : Int) := by rw [← Int.ofNat_tmod, hb]
      have ham : a < m := ha ▸ Nat.mod_lt i hm0
      have hbm : b < m := hb ▸ Nat.mod_lt j hm0
      have hmne : ¬ m = 0 := by omega
      clear ha hb hcm
      refine wp_region_sp (n := 118) 12 [33, 34, 35, 36, 37, 38, 39, 40, 41, 42, 12, 13] [SP.is (.int .u8 (i : Nat)), SP.is (.int .i64 (i : Nat)), SP.is (.pointer (some ⟨bm, 0, none⟩)), SP.is (.int .i64 (m : Int)), SP.is (.int .i64 (a : Nat)), SP.is (.int .u8 (j : Nat)), SP.is (.int .i64 (j : Nat)), SP.is (.pointer (some ⟨bm, 0, none⟩)), SP.is (.int .i64 (m : Int)), SP.is (.int .i64 (b : Nat)), SP.is (.int .i64 (a : Nat)), SP.is (.int .i64 (b : Nat))] (fun wq => Blk wq bm 24 #[.int .i64 (m : Int), .slice p2 n2 c2] ∧ Up wA wq ∧ Below w.heap.size w wq) (by kernel_rfl) (by rfl) (by kernel_rfl) (by kernel_rfl) (fun _ _ h hu => ⟨(h.1).up hu, (h.2.1).trans hu, below_up (h.2.2) hu⟩) ⟨(by first | assumption | exact gBlk), (by first | exact Up.refl _ | assumption), gUp⟩ (fun ev w9 hS9 i o hne hi hev => ?_) (fun gR wE hq hSE huE => ?_)
      · have ⟨hS1, hS2, hSB⟩ := hS9
        have hcC := hev.const
        have hcF := hev.func
        have hcG := hev.global
        rcases i with _ | _ | _ | _ | _ | _ | _ | _ | _ | _ | _ | _ | i
        · obtain rfl := Option.some.inj (show some _ = some o from hi)
          have e3 := hev.other 3 (by kernel_rfl)
          simp [Act.eval] at e3
          exact leavesR_value (u := .int .u8 (i : Nat)) (by first | (go_simp; done) | (go_simp; exact rfl)) rfl
        · obtain rfl := Option.some.inj (show some _ = some o from hi)
          have e33 : ev (.tmp 33) = (.int .u8 (i : Nat)) := hev.dep 0 33 (by kernel_rfl)
          exact leavesR_value (u := .int .i64 (i : Nat)) (by first | (go_simp; done) | (go_simp; exact rfl)) rfl
        · obtain rfl := Option.some.inj (show some _ = some o from hi)
          have e11 := hev.other 11 (by kernel_rfl)
          simp [Act.eval] at e11
          exact leavesR_value (u := .pointer (some ⟨bm, 0, none⟩)) (by first | (go_simp; done) | (go_simp; exact rfl)) rfl
        · obtain rfl := Option.some.inj (show some _ = some o from hi)
          have e35 : ev (.tmp 35) = (.pointer (some ⟨bm, 0, none⟩)) := hev.dep 2 35 (by kernel_rfl)
          have hc1 := hS1.cell 0 rfl; exact leavesR_value (u := .int .i64 (m : Int)) (by go_simp) rfl
        · obtain rfl := Option.some.inj (show some _ = some o from hi)
          have e34 : ev (.tmp 34) = (.int .i64 (i : Nat)) := hev.dep 1 34 (by kernel_rfl)
          have e36 : ev (.tmp 36) = (.int .i64 (m : Int)) := hev.dep 3 36 (by kernel_rfl)
          exact leavesR_value (u := .int .i64 (a : Nat)) (by first | (go_simp; done) | (go_simp; exact rfl)) rfl
        · obtain rfl := Option.some.inj (show some _ = some o from hi)
          have e4 := hev.other 4 (by kernel_rfl)
          simp [Act.eval] at e4
          exact leavesR_value (u := .int .u8 (j : Nat)) (by first | (go_simp; done) | (go_simp; exact rfl)) rfl
        · obtain rfl := Option.some.inj (show some _ = some o from hi)
          have e38 : ev (.tmp 38) = (.int .u8 (j : Nat)) := hev.dep 5 38 (by kernel_rfl)
          exact leavesR_value (u := .int .i64 (j : Nat)) (by first | (go_simp; done) | (go_simp; exact rfl)) rfl
        · obtain rfl := Option.some.inj (show some _ = some o from hi)
          have e11 := hev.other 11 (by kernel_rfl)
          simp [Act.eval] at e11
          exact leavesR_value (u := .pointer (some ⟨bm, 0, none⟩)) (by first | (go_simp; done) | (go_simp; exact rfl)) rfl
        · obtain rfl := Option.some.inj (show some _ = some o from hi)
          have e40 : ev (.tmp 40) = (.pointer (some ⟨bm, 0, none⟩)) := hev.dep 7 40 (by kernel_rfl)
          have hc1 := hS1.cell 0 rfl; exact leavesR_value (u := .int .i64 (m : Int)) (by go_simp) rfl
        · obtain rfl := Option.some.inj (show some _ = some o from hi)
          have e39 : ev (.tmp 39) = (.int .i64 (j : Nat)) := hev.dep 6 39 (by kernel_rfl)
          have e41 : ev (.tmp 41) = (.int .i64 (m : Int)) := hev.dep 8 41 (by kernel_rfl)
          exact leavesR_value (u := .int .i64 (b : Nat)) (by first | (go_simp; done) | (go_simp; exact rfl)) rfl
        · obtain rfl := Option.some.inj (show some _ = some o from hi)
          have e37 : ev (.tmp 37) = (.int .i64 (a : Nat)) := hev.dep 4 37 (by kernel_rfl)
          exact leavesR_value (u := .int .i64 (a : Nat)) (by first | (go_simp; done) | (go_simp; exact rfl)) rfl
        · obtain rfl := Option.some.inj (show some _ = some o from hi)
          have e42 : ev (.tmp 42) = (.int .i64 (b : Nat)) := hev.dep 9 42 (by kernel_rfl)
          exact leavesR_value (u := .int .i64 (b : Nat)) (by first | (go_simp; done) | (go_simp; exact rfl)) rfl
        · exact absurd (show i + 12 < 12 from (Array.getElem?_eq_some_iff.1 hi).1) (by omega)
      have ⟨hS1, hS2, hSB⟩ := hSE
      have q0 : gR 33 = (.int .u8 (i : Nat)) := hq 0 33 (by decide) (by kernel_rfl)
      have q1 : gR 34 = (.int .i64 (i : Nat)) := hq 1 34 (by decide) (by kernel_rfl)
      have q2 : gR 35 = (.pointer (some ⟨bm, 0, none⟩)) := hq 2 35 (by decide) (by kernel_rfl)
      have q3 : gR 36 = (.int .i64 (m : Int)) := hq 3 36 (by decide) (by kernel_rfl)
      have q4 : gR 37 = (.int .i64 (a : Nat)) := hq 4 37 (by decide) (by kernel_rfl)
      have q5 : gR 38 = (.int .u8 (j : Nat)) := hq 5 38 (by decide) (by kernel_rfl)
      have q6 : gR 39 = (.int .i64 (j : Nat)) := hq 6 39 (by decide) (by kernel_rfl)
      have q7 : gR 40 = (.pointer (some ⟨bm, 0, none⟩)) := hq 7 40 (by decide) (by kernel_rfl)
      have q8 : gR 41 = (.int .i64 (m : Int)) := hq 8 41 (by decide) (by kernel_rfl)
      have q9 : gR 42 = (.int .i64 (b : Nat)) := hq 9 42 (by decide) (by kernel_rfl)
      have q10 : gR 12 = (.int .i64 (a : Nat)) := hq 10 12 (by decide) (by kernel_rfl)
      have q11 : gR 13 = (.int .i64 (b : Nat)) := hq 11 13 (by decide) (by kernel_rfl)
      refine ⟨fun _ => ?_, fun o ho => by simp at ho⟩
      simp only [putL, List.map_cons, List.map_nil, q0, q1, q2, q3, q4, q5, q6, q7, q8, q9, q10, q11, Act.put, pu1, pu2, pu3]
      clear hq hSE q0 q1 q2 q3 q4 q5 q6 q7 q8 q9 q10 q11
      have hB2 := hS1
      have hU2 := hU.trans hS2
      have HS2 := hid (HSm.out.up hS2)
      clear hS1 hS2 hSB huE hB hU ei ej ta tb
      have hml : (List.replicate m (0 : Int)).length = m := List.length_replicate
      have Hml := hid hml
      clear hml
      cases hd : dfV m L with
      | false =>
        have HCa := hid (fun w' (hu : Up wE w') => col_bad (HS2.out.up hu) HRt.out ham hd)
        have HCb := hid (fun w' (hu : Up wE w') => col_bad (HS2.out.up hu) HRt.out hbm hd)
        have HQ := hid (fun w' (hu : Up wE w') xv (hx : Vw w' xv (unitL m a)) => quad_bad (HS2.out.up hu) HRt.out hd hx)
        clear hd hR
        go_upto_region 12 with (first
          | ((with_reducible apply ldM_P); exact rfl; exact rfl; (first | exact hB2 | exact hB2.up hu3); exact rfl)
          | (go_at_call 42; first
              | ((with_reducible refine (HCa.out _ (Up.refl _)).mono ?_); rintro r w3 ⟨t3, y3, rfl, hu3, h3⟩)
              | ((with_reducible refine (HCb.out _ hu3).mono ?_); rintro r w4 ⟨t4, y4, rfl, hu4, h4⟩; have hB4 := hB2.up (hu3.trans hu4); have hcm4 := hB4.cell 0 rfl))
          | ((with_reducible apply mkI); exact rfl; (focus omega); (focus omega); rintro g mm cc w5 hO5 hu5))
        have hU5 := hU2.trans ((hu3.trans hu4).trans hu5)
        have hB5 := hB4.up hu5
        rw [Int.toNat_natCast] at hO5
        obtain ⟨g', cap', C5, hv5, hbg, -, -, -, -, -⟩ := hO5.open (by rw [Hml.out]; omega)
        rw [Hml.out] at hv5
        injection hv5 with x1 x2 x3
        injection x1 with x1
        injection x1 with x1
        have x2' := x2.symm
        subst x1 x2' x3
        obtain ⟨hcW, hfW⟩ := hO5.cells (k := a) (by rw [Hml.out]; exact ham)
        have hset := hO5.set (k := a) (by rw [Hml.out]; exact ham) 1
        rw [unit_set] at hset
        have hlt4 := hB4.lt
        have gUw : Up w4 (w5.setCell ⟨g, a, none⟩ (.int .i64 1)) := bl_setCell (show w4.heap.size ≤ g by omega) hu5
        have gB := hB4.up gUw
        have gU := (hU2.trans (hu3.trans hu4)).trans gUw
        have HQd := hid (HQ.out _ ((hu3.trans hu4).trans gUw) _ hset.vw)
        have h4' := h4.up gUw
        have h3' := h3.up (hu4.trans gUw)
        obtain ⟨wK, hwK⟩ : ∃ y, w5.setCell ⟨g, a, none⟩ (.int .i64 1) = y := ⟨_, rfl⟩
        rw [hwK] at gUw gB gU HQd h4' h3'
        clear hset hO5 hB5 hU5 hbg hlt4 hcm4 hB4 h3 h4 hu3 hu4 hu5 gUw
        go_wp2_with (first
          | ((with_reducible apply ldM_P); exact rfl; exact rfl; exact gB; exact rfl)
          | (go_at_call 39; (with_reducible refine HQd.out.mono ?_); rintro r w6 ⟨t6, y6, rfl, hu6, h6⟩)
          | ((with_reducible apply stF_P (z := 0) (D := 0)); exact rfl; exact rfl; exact Blk.new _ _ rfl; exact rfl
             refine wpL_folded (fun wd => Up w6 wd) (below_setRow (Up.alloc _ _) (Nat.le_refl _) _) ?_
             rintro wM hXM
             have k3 := h3'.up (hu6.trans hXM)
             have k4 := h4'.up (hu6.trans hXM)
             have k6 := h6.up hXM
             have gM := gU.trans (hu6.trans hXM))
          | (go_at_call 36; first
              | ((with_reducible refine (ssays_any k3 (HG.out _ gM)).mono ?_); rintro r w9 ⟨rfl, hu9⟩; have hU9 := gM.trans hu9)
              | ((with_reducible refine (ssays_any (k4.up hu9) (HG.out _ hU9)).mono ?_); rintro r w10 ⟨rfl, hu10⟩; have hU10 := hU9.trans hu10)
              | ((with_reducible refine (ssays_any (k6.up (hu9.trans hu10)) (HG.out _ hU10)).mono ?_); rintro r w11 ⟨rfl, hu11⟩)))
        go_ret
        exact ⟨rfl, hU10.trans hu11⟩
      | true =>
        have hDa := (slC_def (show slC m L (unitL m a) = 0 from by rw [slC_unit HRt.out, if_pos hd]))
        obtain ⟨m1, hm1, hDa, -⟩ := hDa
        obtain rfl : m = m1 := by omega
        have hDb := (slC_def (show slC m L (unitL m b) = 0 from by rw [slC_unit HRt.out, if_pos hd]))
        obtain ⟨m2, hm2, hDb, -⟩ := hDb
        obtain rfl : m = m2 := by omega
        have HSd := hid (slX_sides hDa hDb ham hbm)
        have HCa := hid (fun w' (hu : Up wE w') => col_ok (HS2.out.up hu) HRt.out ham hd)
        have HCb := hid (fun w' (hu : Up wE w') => col_ok (HS2.out.up hu) HRt.out hbm hd)
        have HQ := hid (fun w' (hu : Up wE w') xv (hx : Vw w' xv (unitL m a)) => quad_ok (HS2.out.up hu) HRt.out ham hd hx)
        have HLa := hid (show (slL m L (unitL m a)).length = m from mk_len _ _)
        have HLb := hid (show (slL m L (unitL m b)).length = m from mk_len _ _)
        have HZb := hid (show zth (slL m L (unitL m a)) b = slX m L (unitL m b) a from HSd.out ▸ mk_at hbm)
        have HZa := hid (show zth (slL m L (unitL m b)) a = slX m L (unitL m b) a from mk_at ham)
        have HZq := hid (show zth (slL m L (unitL m a)) a = slX m L (unitL m a) a from mk_at ham)
        clear hd hR hDa hDb hm1 hm2
        generalize slL m L (unitL m a) = EA at *
        generalize slL m L (unitL m b) = EB at *
        generalize slX m L (unitL m a) a = q at *
        generalize slX m L (unitL m b) a = x at *
        generalize slD m L = D at *
        go_upto_region 12 with (first
          | ((with_reducible apply ldM_P); exact rfl; exact rfl; (first | exact hB2 | exact hB2.up hu3); exact rfl)
          | (go_at_call 42; first
              | ((with_reducible refine (HCa.out _ (Up.refl _)).mono ?_); rintro r w3 ⟨p3, c3, rfl, hu3, h3⟩)
              | ((with_reducible refine (HCb.out _ hu3).mono ?_); rintro r w4 ⟨p4, c4, rfl, hu4, h4⟩; have hB4 := hB2.up (hu3.trans hu4); have hcm4 := hB4.cell 0 rfl))
          | ((with_reducible apply mkI); exact rfl; (focus omega); (focus omega); rintro g mm cc w5 hO5 hu5))
        have hU5 := hU2.trans ((hu3.trans hu4).trans hu5)
        have hB5 := hB4.up hu5
        rw [Int.toNat_natCast] at hO5
        obtain ⟨g', cap', C5, hv5, hbg, -, -, -, -, -⟩ := hO5.open (by rw [Hml.out]; omega)
        rw [Hml.out] at hv5
        injection hv5 with x1 x2 x3
        injection x1 with x1
        injection x1 with x1
        have x2' := x2.symm
        subst x1 x2' x3
        obtain ⟨hcW, hfW⟩ := hO5.cells (k := a) (by rw [Hml.out]; exact ham)
        have hset := hO5.set (k := a) (by rw [Hml.out]; exact ham) 1
        rw [unit_set] at hset
        have hlt4 := hB4.lt
        have gUw : Up w4 (w5.setCell ⟨g, a, none⟩ (.int .i64 1)) := bl_setCell (show w4.heap.size ≤ g by omega) hu5
        have gB := hB4.up gUw
        have gU := (hU2.trans (hu3.trans hu4)).trans gUw
        have HQd := hid (HQ.out _ ((hu3.trans hu4).trans gUw) _ hset.vw)
        have h4' := h4.up gUw
        have h3' := h3.up (hu4.trans gUw)
        obtain ⟨wK, hwK⟩ : ∃ y, w5.setCell ⟨g, a, none⟩ (.int .i64 1) = y := ⟨_, rfl⟩
        rw [hwK] at gUw gB gU HQd h4' h3'
        clear hset hO5 hB5 hU5 hbg hlt4 hcm4 hB4 h3 h4 hu3 hu4 hu5 gUw
        go_upto_region 16 with (first
          | ((with_reducible apply ldM_P); exact rfl; exact rfl; exact gB; exact rfl)
          | (go_at_call 39; (with_reducible refine HQd.out.mono ?_); rintro r w6 ⟨rfl, hu6⟩)
          | ((with_reducible apply stF_P (z := q) (D := D)); exact rfl; exact rfl; exact Blk.new _ _ rfl; exact rfl
             refine wpL_folded (fun wd => Up w6 wd ∧ Blk wd w6.heap.size 76 (fA q D)) ⟨below_setRow (Up.alloc _ _) (Nat.le_refl _) _, Blk.setRow (Blk.new _ _ rfl) _⟩ ?_
             rintro wM ⟨hXM, hBQ⟩
             have k3 := h3'.up (hu6.trans hXM)
             have k4 := h4'.up (hu6.trans hXM)
             have kB := gB.up (hu6.trans hXM)
             have gM := gU.trans (hu6.trans hXM)))
        obtain ⟨bQ, hbQ⟩ : ∃ y, w6.heap.size = y := ⟨_, rfl⟩
        rw [hbQ] at hBQ ⊢
        obtain ⟨g3, q3, C3, hv3, -, hB3, ht3⟩ := (show Fv wM (.slice p3 EA.length c3) D EA from HLa.out.symm ▸ k3).open (by rw [HLa.out]; omega)
        rw [HLa.out] at hv3
        injection hv3 with x1 x2 x3
        subst x1 x3
        obtain ⟨g4, q4, C4, hv4, -, hB4, ht4⟩ := (show Fv wM (.slice p4 EB.length c4) D EB from HLb.out.symm ▸ k4).open (by rw [HLb.out]; omega)
        rw [HLb.out] at hv4
        injection hv4 with x1 x2 x3
        subst x1 x3
        have HR3b := hid (fun w' (hB : Blk w' g3 76 C3) => HZb.out ▸ fv_range hB ht3 (i := b) (by rw [HLa.out]; exact hbm))
        have HR3a := hid (fun w' (hB : Blk w' g3 76 C3) => HZq.out ▸ fv_range hB ht3 (i := a) (by rw [HLa.out]; exact ham))
        have HR4a := hid (fun w' (hB : Blk w' g4 76 C4) => HZa.out ▸ fv_range hB ht4 (i := a) (by rw [HLb.out]; exact ham))
        have hcm := kB.cell 0 rfl
        clear ht3 ht4 k3 k4 hbQ hXM hu6 gU gB h3' h4' hwK
        try simp only [Act.put]
        refine wp_region_sg (n := 118) 32 [87, 88, 89, 90, 91, 92, 93, 94, 95, 96, 97, 98, 99, 100, 101, 102, 103, 104, 105, 106, 107, 108, 109, 110, 111, 112, 113, 114, 115, 116, 117, 10] [SG.is (.slice (some ⟨g3, 0, none⟩) m c3), SG.is (.int .i64 (m : Int)), SG.is (.pointer (some ⟨bm, 0, none⟩)), SG.is (.int .i64 (m : Int)), SG.is (.bool true), SG.tt true, SG.is (.slice (some ⟨g4, 0, none⟩) m c4), SG.is (.int .i64 (m : Int)), SG.is (.pointer (some ⟨bm, 0, none⟩)), SG.is (.int .i64 (m : Int)), SG.is (.bool true), SG.is (.bool true), SG.tt true, SG.is (.slice (some ⟨g3, 0, none⟩) m c3), SG.is (.int .i64 (b : Nat)), SG.is (.pointer (some ⟨g3, b * 32, none⟩)), SG.is (.agg (fA x D)), SG.is (.slice (some ⟨g4, 0, none⟩) m c4), SG.is (.int .i64 (a : Nat)), SG.is (.pointer (some ⟨g4, a * 32, none⟩)), SG.is (.agg (fA x D)), SG.is (.bool true), SG.is (.bool true), SG.tt true, SG.is (.agg (fA q D)), SG.is (.slice (some ⟨g3, 0, none⟩) m c3), SG.is (.int .i64 (a : Nat)), SG.is (.pointer (some ⟨g3, a * 32, none⟩)), SG.is (.agg (fA q D)), SG.is (.bool true), SG.is (.bool true), SG.is (.bool true)] (fun wq => Blk wq bm 24 #[.int .i64 (m : Int), .slice p2 n2 c2] ∧ Blk wq g3 76 C3 ∧ Blk wq g4 76 C4 ∧ Blk wq bQ 76 (fA q D) ∧ Up wM wq ∧ Below w.heap.size w wq) (by kernel_rfl) (by rfl) (by kernel_rfl) (by kernel_rfl) (fun _ _ h hu => ⟨(h.1).up hu, (h.2.1).up hu, (h.2.2.1).up hu, (h.2.2.2.1).up hu, (h.2.2.2.2.1).trans hu, below_up (h.2.2.2.2.2) hu⟩) ⟨(by first | assumption | exact gBlk), (by first | assumption | exact gBlk), (by first | assumption | exact gBlk), (by first | assumption | exact gBlk), (by first | exact Up.refl _ | assumption), gUp⟩ (fun ev w9 hS9 i o hne hi hwt hev => ?_) (fun gR wE hq hSE huE => ?_)
        · have ⟨hS1, hS2, hS3, hS4, hS5, hSB⟩ := hS9
          have hcC := hev.const
          have hcF := hev.func
          have hcG := hev.global
          rcases i with _ | _ | _ | _ | _ | _ | _ | _ | _ | _ | _ | _ | _ | _ | _ | _ | _ | _ | _ | _ | _ | _ | _ | _ | _ | _ | _ | _ | _ | _ | _ | _ | i
          · obtain rfl := Option.some.inj (show some _ = some o from hi)
            have e14 := hev.other 14 (by kernel_rfl)
            simp [Act.eval] at e14
            exact leavesR_value (u := .slice (some ⟨g3, 0, none⟩) m c3) (by first | (go_simp; done) | (go_simp; exact rfl)) rfl
          · obtain rfl := Option.some.inj (show some _ = some o from hi)
            have e87 : ev (.tmp 87) = (.slice (some ⟨g3, 0, none⟩) m c3) := hev.dep 0 87 (by kernel_rfl)
            exact leavesR_value (u := .int .i64 (m : Int)) (by first | (go_simp; done) | (go_simp; exact rfl)) rfl
          · obtain rfl := Option.some.inj (show some _ = some o from hi)
            have e11 := hev.other 11 (by kernel_rfl)
            simp [Act.eval] at e11
            exact leavesR_value (u := .pointer (some ⟨bm, 0, none⟩)) (by first | (go_simp; done) | (go_simp; exact rfl)) rfl
          · obtain rfl := Option.some.inj (show some _ = some o from hi)
            have e89 : ev (.tmp 89) = (.pointer (some ⟨bm, 0, none⟩)) := hev.dep 2 89 (by kernel_rfl)
            have hc1 := hS1.cell 0 rfl; exact leavesR_value (u := .int .i64 (m : Int)) (by go_simp) rfl
          · obtain rfl := Option.some.inj (show some _ = some o from hi)
            have e88 : ev (.tmp 88) = (.int .i64 (m : Int)) := hev.dep 1 88 (by kernel_rfl)
            have e90 : ev (.tmp 90) = (.int .i64 (m : Int)) := hev.dep 3 90 (by kernel_rfl)
            exact leavesR_value (u := .bool true) (by first | (go_simp; done) | (go_simp; exact rfl)) rfl
          · obtain rfl := Option.some.inj (show some _ = some o from hi)
            have e91 : ev (.tmp 91) = (.bool true) := hev.dep 4 91 (by kernel_rfl)
            exact leavesR_value (u := .bool true) (by first | (go_simp; done) | (go_simp; exact rfl)) rfl
          · obtain rfl := Option.some.inj (show some _ = some o from hi)
            have e16 := hev.other 16 (by kernel_rfl)
            simp [Act.eval] at e16
            exact leavesR_value (u := .slice (some ⟨g4, 0, none⟩) m c4) (by first | (go_simp; done) | (go_simp; exact rfl)) rfl
          · obtain rfl := Option.some.inj (show some _ = some o from hi)
            have e93 : ev (.tmp 93) = (.slice (some ⟨g4, 0, none⟩) m c4) := hev.dep 6 93 (by kernel_rfl)
            exact leavesR_value (u := .int .i64 (m : Int)) (by first | (go_simp; done) | (go_simp; exact rfl)) rfl
          · obtain rfl := Option.some.inj (show some _ = some o from hi)
            have e11 := hev.other 11 (by kernel_rfl)
            simp [Act.eval] at e11
            exact leavesR_value (u := .pointer (some ⟨bm, 0, none⟩)) (by first | (go_simp; done) | (go_simp; exact rfl)) rfl
          · obtain rfl := Option.some.inj (show some _ = some o from hi)
            have e95 : ev (.tmp 95) = (.pointer (some ⟨bm, 0, none⟩)) := hev.dep 8 95 (by kernel_rfl)
            have hc1 := hS1.cell 0 rfl; exact leavesR_value (u := .int .i64 (m : Int)) (by go_simp) rfl
          · obtain rfl := Option.some.inj (show some _ = some o from hi)
            have e94 : ev (.tmp 94) = (.int .i64 (m : Int)) := hev.dep 7 94 (by kernel_rfl)
            have e96 : ev (.tmp 96) = (.int .i64 (m : Int)) := hev.dep 9 96 (by kernel_rfl)
            exact leavesR_value (u := .bool true) (by first | (go_simp; done) | (go_simp; exact rfl)) rfl
          · obtain rfl := Option.some.inj (show some _ = some o from hi)
            have e92 : ev (.tmp 92) = (.bool true) := hev.dep 5 92 (by kernel_rfl)
            have e97 : ev (.tmp 97) = (.bool true) := hev.dep 10 97 (by kernel_rfl)
            exact leavesR_value (u := .bool true) (by first | (go_simp; done) | (go_simp; exact rfl)) rfl
          · obtain rfl := Option.some.inj (show some _ = some o from hi)
            have e98 : ev (.tmp 98) = (.bool true) := hev.dep 11 98 (by kernel_rfl)
            exact leavesR_value (u := .bool true) (by first | (go_simp; done) | (go_simp; exact rfl)) rfl
          · obtain rfl := Option.some.inj (show some _ = some o from hi)
            have e14 := hev.other 14 (by kernel_rfl)
            simp [Act.eval] at e14
            exact leavesR_value (u := .slice (some ⟨g3, 0, none⟩) m c3) (by first | (go_simp; done) | (go_simp; exact rfl)) rfl
          · obtain rfl := Option.some.inj (show some _ = some o from hi)
            have e13 := hev.other 13 (by kernel_rfl)
            simp [Act.eval] at e13
            exact leavesR_value (u := .int .i64 (b : Nat)) (by first | (go_simp; done) | (go_simp; exact rfl)) rfl
          · obtain rfl := Option.some.inj (show some _ = some o from hi)
            have e100 : ev (.tmp 100) = (.slice (some ⟨g3, 0, none⟩) m c3) := hev.dep 13 100 (by kernel_rfl)
            have e101 : ev (.tmp 101) = (.int .i64 (b : Nat)) := hev.dep 14 101 (by kernel_rfl)
            exact leavesR_value (u := .pointer (some ⟨g3, b * 32, none⟩)) (by first | (go_simp; done) | (go_simp; exact rfl)) rfl
          · obtain rfl := Option.some.inj (show some _ = some o from hi)
            have e102 : ev (.tmp 102) = (.pointer (some ⟨g3, b * 32, none⟩)) := hev.dep 15 102 (by kernel_rfl)
            exact leavesR_value (run_ldF rfl e102 (HR3b.out _ hS2)) rfl
          · obtain rfl := Option.some.inj (show some _ = some o from hi)
            have e16 := hev.other 16 (by kernel_rfl)
            simp [Act.eval] at e16
            exact leavesR_value (u := .slice (some ⟨g4, 0, none⟩) m c4) (by first | (go_simp; done) | (go_simp; exact rfl)) rfl
          · obtain rfl := Option.some.inj (show some _ = some o from hi)
            have e12 := hev.other 12 (by kernel_rfl)
            simp [Act.eval] at e12
            exact leavesR_value (u := .int .i64 (a : Nat)) (by first | (go_simp; done) | (go_simp; exact rfl)) rfl
          · obtain rfl := Option.some.inj (show some _ = some o from hi)
            have e104 : ev (.tmp 104) = (.slice (some ⟨g4, 0, none⟩) m c4) := hev.dep 17 104 (by kernel_rfl)
            have e105 : ev (.tmp 105) = (.int .i64 (a : Nat)) := hev.dep 18 105 (by kernel_rfl)
            exact leavesR_value (u := .pointer (some ⟨g4, a * 32, none⟩)) (by first | (go_simp; done) | (go_simp; exact rfl)) rfl
          · obtain rfl := Option.some.inj (show some _ = some o from hi)
            have e106 : ev (.tmp 106) = (.pointer (some ⟨g4, a * 32, none⟩)) := hev.dep 19 106 (by kernel_rfl)
            exact leavesR_value (run_ldF rfl e106 (HR4a.out _ hS3)) rfl
          · obtain rfl := Option.some.inj (show some _ = some o from hi)
            have e103 : ev (.tmp 103) = (.agg (fA x D)) := hev.dep 16 103 (by kernel_rfl)
            have e107 : ev (.tmp 107) = (.agg (fA x D)) := hev.dep 20 107 (by kernel_rfl)
            exact leavesR_value (run_eqFE rfl e103 e107 _) rfl
          · obtain rfl := Option.some.inj (show some _ = some o from hi)
            have e99 : ev (.tmp 99) = (.bool true) := hev.dep 12 99 (by kernel_rfl)
            have e108 : ev (.tmp 108) = (.bool true) := hev.dep 21 108 (by kernel_rfl)
            exact leavesR_value (u := .bool true) (by first | (go_simp; done) | (go_simp; exact rfl)) rfl
          · obtain rfl := Option.some.inj (show some _ = some o from hi)
            have e109 : ev (.tmp 109) = (.bool true) := hev.dep 22 109 (by kernel_rfl)
            exact leavesR_value (u := .bool true) (by first | (go_simp; done) | (go_simp; exact rfl)) rfl
          · obtain rfl := Option.some.inj (show some _ = some o from hi)
            have e19 := hev.other 19 (by kernel_rfl)
            simp [Act.eval] at e19
            exact leavesR_value (run_ldF rfl (by go_simp) (blkF_range hS4)) rfl
          · obtain rfl := Option.some.inj (show some _ = some o from hi)
            have e14 := hev.other 14 (by kernel_rfl)
            simp [Act.eval] at e14
            exact leavesR_value (u := .slice (some ⟨g3, 0, none⟩) m c3) (by first | (go_simp; done) | (go_simp; exact rfl)) rfl
          · obtain rfl := Option.some.inj (show some _ = some o from hi)
            have e12 := hev.other 12 (by kernel_rfl)
            simp [Act.eval] at e12
            exact leavesR_value (u := .int .i64 (a : Nat)) (by first | (go_simp; done) | (go_simp; exact rfl)) rfl
          · obtain rfl := Option.some.inj (show some _ = some o from hi)
            have e112 : ev (.tmp 112) = (.slice (some ⟨g3, 0, none⟩) m c3) := hev.dep 25 112 (by kernel_rfl)
            have e113 : ev (.tmp 113) = (.int .i64 (a : Nat)) := hev.dep 26 113 (by kernel_rfl)
            exact leavesR_value (u := .pointer (some ⟨g3, a * 32, none⟩)) (by first | (go_simp; done) | (go_simp; exact rfl)) rfl
          · obtain rfl := Option.some.inj (show some _ = some o from hi)
            have e114 : ev (.tmp 114) = (.pointer (some ⟨g3, a * 32, none⟩)) := hev.dep 27 114 (by kernel_rfl)
            exact leavesR_value (run_ldF rfl e114 (HR3a.out _ hS2)) rfl
          · obtain rfl := Option.some.inj (show some _ = some o from hi)
            have e111 : ev (.tmp 111) = (.agg (fA q D)) := hev.dep 24 111 (by kernel_rfl)
            have e115 : ev (.tmp 115) = (.agg (fA q D)) := hev.dep 28 115 (by kernel_rfl)
            exact leavesR_value (run_eqFE rfl e111 e115 _) rfl
          · obtain rfl := Option.some.inj (show some _ = some o from hi)
            have e110 : ev (.tmp 110) = (.bool true) := hev.dep 23 110 (by kernel_rfl)
            have e116 : ev (.tmp 116) = (.bool true) := hev.dep 29 116 (by kernel_rfl)
            exact leavesR_value (u := .bool true) (by first | (go_simp; done) | (go_simp; exact rfl)) rfl
          · obtain rfl := Option.some.inj (show some _ = some o from hi)
            have e117 : ev (.tmp 117) = (.bool true) := hev.dep 30 117 (by kernel_rfl)
            exact leavesR_value (u := .bool true) (by first | (go_simp; done) | (go_simp; exact rfl)) rfl
          · exact absurd (show i + 32 < 32 from (Array.getElem?_eq_some_iff.1 hi).1) (by omega)
        have ⟨hS1, hS2, hS3, hS4, hS5, hSB⟩ := hSE
        have q0 : gR 87 = (.slice (some ⟨g3, 0, none⟩) m c3) := hq 0 87 (by decide) (by kernel_rfl)
        have q1 : gR 88 = (.int .i64 (m : Int)) := hq 1 88 (by decide) (by kernel_rfl)
        have q2 : gR 89 = (.pointer (some ⟨bm, 0, none⟩)) := hq 2 89 (by decide) (by kernel_rfl)
        have q3 : gR 90 = (.int .i64 (m : Int)) := hq 3 90 (by decide) (by kernel_rfl)
        have q4 : gR 91 = (.bool true) := hq 4 91 (by decide) (by kernel_rfl)
        have q5 : gR 92 = (.bool true) := hq 5 92 (by decide) (by kernel_rfl)
        have q6 : gR 93 = (.slice (some ⟨g4, 0, none⟩) m c4) := hq 6 93 (by decide) (by kernel_rfl)
        have q7 : gR 94 = (.int .i64 (m : Int)) := hq 7 94 (by decide) (by kernel_rfl)
        have q8 : gR 95 = (.pointer (some ⟨bm, 0, none⟩)) := hq 8 95 (by decide) (by kernel_rfl)
        have q9 : gR 96 = (.int .i64 (m : Int)) := hq 9 96 (by decide) (by kernel_rfl)
        have q10 : gR 97 = (.bool true) := hq 10 97 (by decide) (by kernel_rfl)
        have q11 : gR 98 = (.bool true) := hq 11 98 (by decide) (by kernel_rfl)
        have q12 : gR 99 = (.bool true) := hq 12 99 (by decide) (by kernel_rfl)
        have q13 : gR 100 = (.slice (some ⟨g3, 0, none⟩) m c3) := hq 13 100 (by decide) (by kernel_rfl)
        have q14 : gR 101 = (.int .i64 (b : Nat)) := hq 14 101 (by decide) (by kernel_rfl)
        have q15 : gR 102 = (.pointer (some ⟨g3, b * 32, none⟩)) := hq 15 102 (by decide) (by kernel_rfl)
        have q16 : gR 103 = (.agg (fA x D)) := hq 16 103 (by decide) (by kernel_rfl)
        have q17 : gR 104 = (.slice (some ⟨g4, 0, none⟩) m c4) := hq 17 104 (by decide) (by kernel_rfl)
        have q18 : gR 105 = (.int .i64 (a : Nat)) := hq 18 105 (by decide) (by kernel_rfl)
        have q19 : gR 106 = (.pointer (some ⟨g4, a * 32, none⟩)) := hq 19 106 (by decide) (by kernel_rfl)
        have q20 : gR 107 = (.agg (fA x D)) := hq 20 107 (by decide) (by kernel_rfl)
        have q21 : gR 108 = (.bool true) := hq 21 108 (by decide) (by kernel_rfl)
        have q22 : gR 109 = (.bool true) := hq 22 109 (by decide) (by kernel_rfl)
        have q23 : gR 110 = (.bool true) := hq 23 110 (by decide) (by kernel_rfl)
        have q24 : gR 111 = (.agg (fA q D)) := hq 24 111 (by decide) (by kernel_rfl)
        have q25 : gR 112 = (.slice (some ⟨g3, 0, none⟩) m c3) := hq 25 112 (by decide) (by kernel_rfl)
        have q26 : gR 113 = (.int .i64 (a : Nat)) := hq 26 113 (by decide) (by kernel_rfl)
        have q27 : gR 114 = (.pointer (some ⟨g3, a * 32, none⟩)) := hq 27 114 (by decide) (by kernel_rfl)
        have q28 : gR 115 = (.agg (fA q D)) := hq 28 115 (by decide) (by kernel_rfl)
        have q29 : gR 116 = (.bool true) := hq 29 116 (by decide) (by kernel_rfl)
        have q30 : gR 117 = (.bool true) := hq 30 117 (by decide) (by kernel_rfl)
        have q31 : gR 10 = (.bool true) := hq 31 10 (by decide) (by kernel_rfl)
        refine ⟨fun _ => ?_, fun o ho => by simp at ho⟩
        simp only [putL, List.map_cons, List.map_nil, q0, q1, q2, q3, q4, q5, q6, q7, q8, q9, q10, q11, q12, q13, q14, q15, q16, q17, q18, q19, q20, q21, q22, q23, q24, q25, q26, q27, q28, q29, q30, q31, Act.put, pu1, pu2, pu3]
        clear hq hSE q0 q1 q2 q3 q4 q5 q6 q7 q8 q9 q10 q11 q12 q13 q14 q15 q16 q17 q18 q19 q20 q21 q22 q23 q24 q25 q26 q27 q28 q29 q30 q31
        have fU := gM.trans hS5
        clear hS1 hS2 hS3 hS4 hS5 hSB huE
        go_wp2_with fail
        go_ret
        exact ⟨rfl, fU⟩
  · have d60 : decide ((60 : Int) < (hs.length : Int)) = true := decide_eq_true (by omega)
    clear hhc h16 hg hn hd
    go_enter Tryz.func11, Tryz.ntmps11
    go_wp2_with (first
      | (go_at_call 30; (with_reducible refine (HK.out _ (Up.refl _)).mono ?_); rintro r w1 ⟨rfl, hu1⟩))
    go_ret
    exact ⟨rfl, hu1⟩
theorem sides_row {w : World} {a0 a1 a3 a4 : Int} {p2 : Option Addr} {len2 cap2 : Nat} {z2 : List Int} (hg : Glob w) (w0 : (Lit.int .u8 a0).wf = true) (w1 : (Lit.int .u16 a1).wf = true)
    (w2 : IsRowX .i16 w p2 len2 cap2 z2) (w3 : (Lit.int .u8 a3).wf = true) (w4 : (Lit.int .u8 a4).wf = true) :
    Calls Tryz.prog 11 #[.int .u8 a0, .int .u16 a1, .slice p2 len2 cap2, .int .u8 a3, .int .u8 a4] w fun r w' => r = .returned (.bool true) ∧ Up w w' := by
  obtain ⟨n, rfl, hn⟩ := wf_nat (m := 255) w0 IntKind.min_u8 IntKind.max_u8
  obtain ⟨d, rfl, hd⟩ := wf_nat (m := 65535) w1 IntKind.min_u16 IntKind.max_u16
  obtain ⟨i, rfl, hi⟩ := wf_nat (m := 255) w3 IntKind.min_u8 IntKind.max_u8
  obtain ⟨j, rfl, hj⟩ := wf_nat (m := 255) w4 IntKind.min_u8 IntKind.max_u8
  exact sides_w n d i j hg hn hd (vh_row w2).1 (vh_row w2).2 (by omega) (by omega)
end Go.Proofs.YtjoenldfjggciaaGreatDoor
