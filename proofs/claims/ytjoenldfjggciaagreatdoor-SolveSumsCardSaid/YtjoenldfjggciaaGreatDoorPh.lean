import Derived.Test.YtjoenldfjggciaaGreatDoorPg
namespace Go.Proofs.YtjoenldfjggciaaGreatDoor
open Go Go.RowKit
set_option maxRecDepth 100000
theorem sbig_any {z : Int} (hz : InR z) (w : World) :
    Calls Tryz.prog 47 #[.agg (cells 16 (limb (enc z)))] w fun e w' => Up w w' ∧ ∃ v, e = .returned v ∧ Big w' v z := by
  have HF := hid (fun w => from_wide hz w)
  unfold wideV at HF
  go_enter Tryz.func47, Tryz.ntmps47
  obtain ⟨W0, hW0⟩ : ∃ y, (w.alloc (.cells (cells 16 (limb (enc z))) 33)).alloc (.cells #[.bool false, .slice none 0 0] 46) = y := ⟨_, rfl⟩
  have hQ : Blk W0 (w.heap.size + 1) 46 #[.bool false, .slice none 0 0] := by rw [← hW0]; exact Blk.new _ _ (by simp)
  have hR : Row W0 w.heap.size 33 16 (limb (enc z)) := by rw [← hW0]; exact Row.up (row_newc _ _ _ rfl) (Up.alloc _ _)
  have hU : Up w W0 := by rw [← hW0]; exact (Up.alloc _ _).trans (Up.alloc _ _)
  go_wp2_with (first
    | ((with_reducible apply ld_rowP undW infoW); exact rfl; exact rfl; exact gRow)
    | (go_at_call 94; (with_reducible refine (HF.out _).mono ?_); rintro r w1 ⟨hu1, v1, rfl, hv1⟩; obtain ⟨b, a, n, c, rfl⟩ := hv1.shape; have hQ1 := hQ.up hu1)
    | ((with_reducible apply stB_P); exact rfl; exact rfl; exact hQ1; exact rfl; exact rfl; exact one2 _ _ _ _))
  exact bodyPost_ret (resB rfl rfl (hQ1.setRow _) rfl) rfl ⟨below_setRow (hU.trans hu1) (by omega) _, _, rfl, big_set hQ1 hv1⟩
theorem ErrsP.iface {B : ByteArray} {w : World} {u : Value} {e : Int} (h : ErrsP B w u e) (h0 : e ≠ 0) : ∃ t x, u = .iface t x := by
  rcases h with ⟨h, -⟩ | ⟨-, t, x, h, -⟩
  · exact absurd h h0
  · exact ⟨t, x, h⟩
theorem exact_ok {v xv : Value} {n : Nat} {l x : List Int} {w : World} (hm : Sm w v n l) (hx : Vw w xv x) (hI : In64 x) (hs : x.length ≤ 1000) (h0 : slC n l x = 0) :
    Calls Tryz.prog 32 #[v, xv] w fun r w' => ∃ p c, r = .returned (.tuple #[.slice p n c, .nilIface]) ∧ Up w w' ∧ Fv w' (.slice p n c) (slD n l) (slL n l x) := by
  refine (exact_any hm hx hI hs).mono ?_
  rintro r w' ⟨z, u, rfl, hu, hF, -, he⟩
  have hE : exL n l x = slL n l x := by unfold exL; rw [if_pos h0]; rfl
  rw [hE] at hF
  obtain ⟨p, c, rfl⟩ := hF.slice
  have hl : (slL n l x).length = n := mk_len _ _
  rw [hl] at hF ⊢
  rcases he with ⟨-, rfl⟩ | ⟨h, -⟩
  · exact ⟨p, c, rfl, hu, hF⟩
  · exact absurd h0 h
theorem exact_bad {v xv : Value} {N e : Int} {l x : List Int} {w : World} (hm : Sm w v N l) (hx : Vw w xv x) (hI : In64 x) (hs : x.length ≤ 1000) (h0 : slC N l x = e) (he0 : e ≠ 0) :
    Calls Tryz.prog 32 #[v, xv] w fun r w' => ∃ t y, r = .returned (.tuple #[.slice none 0 0, .iface t y]) ∧ Up w w' ∧ ErrsP solveB w' (.iface t y) e := by
  refine (exact_any hm hx hI hs).mono ?_
  rintro r w' ⟨z, u, rfl, hu, -, hz, he⟩
  obtain rfl := hz (by rw [h0]; exact he0)
  rw [h0] at he
  obtain ⟨t, y, rfl⟩ := he.iface he0
  exact ⟨t, y, rfl, hu, he⟩
theorem cmpZ_refl (z : Int) : cmpZ z z = 0 := by unfold cmpZ; rw [if_neg (Int.lt_irrefl z), if_neg (Int.lt_irrefl z)]
theorem wp_appV1 {o : Oper} {a : Act} {K : Act → World → Prop} {Q : Exit → Act → World → Prop} {w : World} {base g c : Nat} {v : Value} {l : List Int} {x : Int} (s u : Operand)
    (ho : o.op = .call { callee := .builtin .append, args := #[s, u], argTypes := #[22, 22] })
    (hs : a.eval s = v) (hu : a.eval u = .slice (some ⟨g, 0, none⟩) 1 c) (hown : OwnI w base v l) (hV : w.cell? ⟨g, 0, none⟩ = some (.int .i64 x)) (hbase : base ≤ w.heap.size) (hl : l.length < 1000000)
    (h : ∀ v' w', OwnI w' base v' (l ++ [x]) → Below base w w' → K (a.put o.dst v') w') : o.wp Tryz.prog a w K Q := by
  obtain ⟨i0, hi0, he⟩ := Option.map_eq_some_iff.1 infoI
  simp only [Prod.mk.injEq] at he
  have hlt := World.ownsRow.lt hown
  refine wp_append_own (w := w) s u 22 ho base 2 i0 (.int .i64 0) 1 8 undI hi0 he.1 he.2.1 he.2.2 rfl (by decide) v l.length (vals l) hs hown ⟨g, 0, none⟩ 1 c (vals [x]) hu (by simp [vals]) (fun j y hy => ?_) ?_ (by unfold maxLen; omega) (by omega) hbase ?_
  · rcases j with _ | j
    · simp [vals] at hy; subst hy; exact hV
    · simp [vals] at hy
  · intro y hy
    simp [vals] at hy; subst hy; rfl
  · intro v' w' h1 h2 _
    refine h v' w' (by unfold OwnI; rw [List.length_append, vals_append]; exact h1) ⟨h2.os, h2.tape, h2.output, h2.size, fun k hk => h2.block k (by omega) ?_⟩
    intro e
    have := hlt k e.symm
    omega
theorem slC_fit {n : Nat} {l v : List Int} (hR : rt n l = true) (hl : v.length = n) (hv : ∀ i, i < n → (zth v i).natAbs ≤ 72057594037927936) : slC n l v = if dfV n l = true then 0 else 30 := by
  have h : ftC n l [v] = 0 := by
    unfold ftC
    rw [if_pos ⟨hR, fun i hi => by
      obtain rfl : i = 0 := by simp at hi; omega
      show ((v.length : Nat) : Int) = _; rw [hl]⟩]
    refine if_pos fun i hi => ?_
    obtain rfl : i = 0 := by simp at hi; omega
    refine List.all_eq_true.2 fun y hy => ?_
    obtain ⟨j, hj, rfl⟩ := List.mem_iff_getElem.1 hy
    have := hv j (by rw [← hl]; exact hj)
    rw [zth_get (show j < v.length from hj)] at this
    exact decide_eq_true this
  unfold slC
  rw [if_pos h]
theorem zth_vecL (l : List Int) (sm : Bool) : ∀ {n i : Nat}, i < n → zth (vecL l sm n) i = vecV l sm i := by
  intro n
  induction n with
  | zero => intro i h; omega
  | succ n ih =>
    intro i h
    show zth (vecL l sm n ++ [vecV l sm n]) i = _
    unfold zth
    by_cases e : i < n
    · rw [List.getD_eq_getElem?_getD, List.getElem?_append_left (by rw [vecL_len]; exact e), ← List.getD_eq_getElem?_getD]
      exact ih e
    · obtain rfl : i = n := by omega
      rw [List.getD_eq_getElem?_getD, List.getElem?_append_right (by rw [vecL_len]; exact Nat.le_refl _), vecL_len, Nat.sub_self]
      rfl
theorem vec_small (l : List Int) {n i : Nat} (h : i < n) : (zth (vecL l true n) i).natAbs < 1000000 := by
  rw [zth_vecL l true h]
  have := tmod_bound (if i < l.length then zth l i else (i : Int)) (m := 1000000) (by decide)
  unfold vecV
  simp only [if_true]
  omega
def addL (n : Nat) (a b : List Int) : List Int := mk n fun i => zth a i + zth b i
set_option maxHeartbeats 16000000 in
theorem sums_walk {w : World} {vh va vb : Value} {hs la lb : List Int} (n d : Nat) (hg : Glob w)
    (hn : n < 256) (hd : d < 65536) (hvh : Vh w vh hs) (h16 : In16 hs) (hva : Vw w va la) (hIa : In64 la) (hvb : Vw w vb lb) (hIb : In64 lb) :
    Calls Tryz.prog 10 #[.int .u8 (n : Nat), .int .u16 (d : Nat), vh, va, vb] w fun r w' => r = .returned (.bool true) ∧ Up w w' := by
  have HK := hid (fun w' (hu : Up w w') => sknown_true (hg.up hu))
  have HG := hid (fun w' (hu : Up w w') => hg.up hu)
  have HVA := hid (fun w' (hu : Up w w') => Vw.up hu hva)
  have HVB := hid (fun w' (hu : Up w w') => Vw.up hu hvb)
  obtain ⟨ph, ch, rfl, hhc⟩ := hvh
  obtain ⟨pa, ca, rfl, -⟩ := hva
  obtain ⟨pb, cb, rfl, -⟩ := hvb
  by_cases hC : hs.length ≤ 60
  · have d60 : decide ((60 : Int) < (hs.length : Int)) = false := decide_eq_false (by omega)
    by_cases hD : la.length ≤ 40
    · have d40 : decide ((40 : Int) < (la.length : Int)) = false := decide_eq_false (by omega)
      by_cases hD2 : lb.length ≤ 40
      · have d41 : decide ((40 : Int) < (lb.length : Int)) = false := decide_eq_false (by omega)
        have HST := hid (fun w' (hu : Up w w') => seat_any n d hn hd (show Vh w' (.slice ph hs.length ch) hs from ⟨ph, ch, rfl, fun i hi => by obtain ⟨a, h1, h2⟩ := hhc i hi; exact ⟨a, h1, hu.cellEq h2⟩⟩) h16 hC)
        clear hhc h16 hg hn hd
        go_enter Tryz.func10, Tryz.ntmps10
        go_upto_region 6 with (first
          | (go_at_call 30; (with_reducible refine (HK.out _ (Up.refl _)).mono ?_); rintro r w1 ⟨rfl, hu1⟩)
          | (go_at_call 13; (with_reducible refine (HST.out _ hu1).mono ?_); rintro r w2 ⟨z, N, L, rfl, hu2, hs2, hR⟩; obtain ⟨m0, m8, -, -⟩ := rt_spec hR; obtain ⟨m, rfl⟩ : ∃ m : Nat, N = (m : Int) := ⟨N.toNat, by omega⟩; have hs2' := hs2; obtain ⟨s, base, rfl, hO2, hr2⟩ := hs2'; obtain ⟨p2, n2, c2, rfl⟩ := OwnI.slice hO2)
          | ((with_reducible apply stM_P); exact rfl; exact rfl; exact Blk.new _ _ rfl; exact rfl; exact rfl; exact two2 _ _ _ _ _
             have hub := below_setRow (Up.alloc w2 (.cells #[.int .i64 0, .slice none 0 0] 24)) (Nat.le_refl _) #[.int .i64 (m : Int), .slice p2 n2 c2]
             have hB := (Blk.new (w := w2) (b := w2.heap.size) 24 #[.int .i64 0, .slice none 0 0] rfl).setRow #[.int .i64 (m : Int), .slice p2 n2 c2]
             have hS := hs2.sm.up hub
             have hU := (hu1.trans hu2).trans hub
             obtain ⟨wA, hwA⟩ : ∃ x, (w2.alloc (.cells #[.int .i64 0, .slice none 0 0] 24)).setRow w2.heap.size #[.int .i64 (m : Int), .slice p2 n2 c2] = x := ⟨_, rfl⟩
             obtain ⟨bm, hbm⟩ : ∃ x, w2.heap.size = x := ⟨_, rfl⟩
             rw [hwA] at hB hS hU ⊢
             rw [hbm] at hB ⊢
             clear hub hwA hbm hs2 hO2 hu1 hu2))
        try simp only [Act.put]
        have HVc1 := hid (fun w' (hu : Up wA w') => show Calls Tryz.prog 31 #[.agg #[.int .i64 (m : Nat), .slice p2 n2 c2], .slice pa la.length ca, .bool true] w' (fun e w'' => Up w' w'' ∧ ∃ v, e = .returned v ∧ Vw w'' v (vecL la true m)) from (vec_any m true rfl (by omega) (HVA.out _ (hU.trans hu)) hIa (by omega)).mono fun _ _ h => by obtain ⟨z, b, rfl, h1, -, h2⟩ := h; exact ⟨h1, z, rfl, h2.vw⟩)
        have HVc2 := hid (fun w' (hu : Up wA w') => show Calls Tryz.prog 31 #[.agg #[.int .i64 (m : Nat), .slice p2 n2 c2], .slice pb lb.length cb, .bool true] w' (fun e w'' => Up w' w'' ∧ ∃ v, e = .returned v ∧ Vw w'' v (vecL lb true m)) from (vec_any m true rfl (by omega) (HVB.out _ (hU.trans hu)) hIb (by omega)).mono fun _ _ h => by obtain ⟨z, b, rfl, h1, -, h2⟩ := h; exact ⟨h1, z, rfl, h2.vw⟩)
        refine wp_region_sp (n := 150) 8 [42, 43, 44, 45, 46, 47, 12, 13] [SP.is (.agg #[.int .i64 (m : Nat), .slice p2 n2 c2]), SP.is (.slice pa la.length ca), SP.of (fun v w1 => Vw w1 v (vecL la true m)) (fun _ _ _ h hu => Vw.up hu h), SP.is (.agg #[.int .i64 (m : Nat), .slice p2 n2 c2]), SP.is (.slice pb lb.length cb), SP.of (fun v w1 => Vw w1 v (vecL lb true m)) (fun _ _ _ h hu => Vw.up hu h), SP.of (fun v w1 => Vw w1 v (vecL la true m)) (fun _ _ _ h hu => Vw.up hu h), SP.of (fun v w1 => Vw w1 v (vecL lb true m)) (fun _ _ _ h hu => Vw.up hu h)] (fun wq => Blk wq bm 24 #[.int .i64 (m : Int), .slice p2 n2 c2] ∧ Up wA wq ∧ Below w.heap.size w wq) (by kernel_rfl) (by rfl) (by kernel_rfl) (by kernel_rfl) (fun _ _ h hu => ⟨(h.1).up hu, (h.2.1).trans hu, below_up (h.2.2) hu⟩) ⟨(by first | assumption | exact gBlk), (by first | exact Up.refl _ | assumption), gUp⟩ (fun ev w9 hS9 i o hne hi hev => ?_) (fun gR wE hq hSE huE => ?_)
        · have ⟨hS1, hS2, hSB⟩ := hS9
          have hcC := hev.const
          have hcF := hev.func
          have hcG := hev.global
          rcases i with _ | _ | _ | _ | _ | _ | _ | _ | i
          · obtain rfl := Option.some.inj (show some _ = some o from hi)
            have e11 := hev.other 11 (by kernel_rfl)
            simp [Act.eval] at e11
            exact leavesR_value (run_ldME rfl (by go_simp) hS1 rfl) rfl
          · obtain rfl := Option.some.inj (show some _ = some o from hi)
            have e3 := hev.other 3 (by kernel_rfl)
            simp [Act.eval] at e3
            exact leavesR_value (u := .slice pa la.length ca) (by first | (go_simp; done) | (go_simp; exact rfl)) rfl
          · obtain rfl := Option.some.inj (show some _ = some o from hi)
            have e42 : ev (.tmp 42) = (.agg #[.int .i64 (m : Nat), .slice p2 n2 c2]) := hev.dep 0 42 (by kernel_rfl)
            have e43 : ev (.tmp 43) = (.slice pa la.length ca) := hev.dep 1 43 (by kernel_rfl)
            refine leavesR_call ?_ (HVc1.out _ hS2)
            go_simp
          · obtain rfl := Option.some.inj (show some _ = some o from hi)
            have e11 := hev.other 11 (by kernel_rfl)
            simp [Act.eval] at e11
            exact leavesR_value (run_ldME rfl (by go_simp) hS1 rfl) rfl
          · obtain rfl := Option.some.inj (show some _ = some o from hi)
            have e4 := hev.other 4 (by kernel_rfl)
            simp [Act.eval] at e4
            exact leavesR_value (u := .slice pb lb.length cb) (by first | (go_simp; done) | (go_simp; exact rfl)) rfl
          · obtain rfl := Option.some.inj (show some _ = some o from hi)
            have e45 : ev (.tmp 45) = (.agg #[.int .i64 (m : Nat), .slice p2 n2 c2]) := hev.dep 3 45 (by kernel_rfl)
            have e46 : ev (.tmp 46) = (.slice pb lb.length cb) := hev.dep 4 46 (by kernel_rfl)
            refine leavesR_call ?_ (HVc2.out _ hS2)
            go_simp
          · obtain rfl := Option.some.inj (show some _ = some o from hi)
            have e44 : (fun v w1 => Vw w1 v (vecL la true m)) (ev (.tmp 44)) w9 := hev.dep 2 44 (by kernel_rfl)
            dsimp only at e44
            obtain ⟨v44, hv44⟩ : ∃ v, ev (.tmp 44) = v := ⟨_, rfl⟩
            rw [hv44] at e44
            exact leavesR_value (u := v44) (by go_simp) e44
          · obtain rfl := Option.some.inj (show some _ = some o from hi)
            have e47 : (fun v w1 => Vw w1 v (vecL lb true m)) (ev (.tmp 47)) w9 := hev.dep 5 47 (by kernel_rfl)
            dsimp only at e47
            obtain ⟨v47, hv47⟩ : ∃ v, ev (.tmp 47) = v := ⟨_, rfl⟩
            rw [hv47] at e47
            exact leavesR_value (u := v47) (by go_simp) e47
          · exact absurd (show i + 8 < 8 from (Array.getElem?_eq_some_iff.1 hi).1) (by omega)
        have ⟨hS1, hS2, hSB⟩ := hSE
        have q0 : gR 42 = (.agg #[.int .i64 (m : Nat), .slice p2 n2 c2]) := hq 0 42 (by decide) (by kernel_rfl)
        have q1 : gR 43 = (.slice pa la.length ca) := hq 1 43 (by decide) (by kernel_rfl)
        have q2 : (fun v w1 => Vw w1 v (vecL la true m)) (gR 44) wE := hq 2 44 (by decide) (by kernel_rfl)
        dsimp only at q2
        obtain ⟨v44, hv44⟩ : ∃ v, gR 44 = v := ⟨_, rfl⟩
        rw [hv44] at q2
        have q3 : gR 45 = (.agg #[.int .i64 (m : Nat), .slice p2 n2 c2]) := hq 3 45 (by decide) (by kernel_rfl)
        have q4 : gR 46 = (.slice pb lb.length cb) := hq 4 46 (by decide) (by kernel_rfl)
        have q5 : (fun v w1 => Vw w1 v (vecL lb true m)) (gR 47) wE := hq 5 47 (by decide) (by kernel_rfl)
        dsimp only at q5
        obtain ⟨v47, hv47⟩ : ∃ v, gR 47 = v := ⟨_, rfl⟩
        rw [hv47] at q5
        have q6 : (fun v w1 => Vw w1 v (vecL la true m)) (gR 12) wE := hq 6 12 (by decide) (by kernel_rfl)
        dsimp only at q6
        obtain ⟨v12, hv12⟩ : ∃ v, gR 12 = v := ⟨_, rfl⟩
        rw [hv12] at q6
        have q7 : (fun v w1 => Vw w1 v (vecL lb true m)) (gR 13) wE := hq 7 13 (by decide) (by kernel_rfl)
        dsimp only at q7
        obtain ⟨v13, hv13⟩ : ∃ v, gR 13 = v := ⟨_, rfl⟩
        rw [hv13] at q7
        refine ⟨fun _ => ?_, fun o ho => by simp at ho⟩
        simp only [putL, List.map_cons, List.map_nil, q0, q1, hv44, q3, q4, hv47, hv12, hv13, Act.put, pu1, pu2, pu3]
        clear hq hSE q0 q1 q3 q4
        clear q2 q5 hSB
        have hS5 := hS.up huE
        have hUE := hU.trans huE
        clear huE hB hS2
        have HSA := hid (fun i (hi : i < m) => vec_small la (n := m) hi)
        have HSB := hid (fun i (hi : i < m) => vec_small lb (n := m) hi)
        have hAl := vecL_len la true m
        have hBl := vecL_len lb true m
        have HAi := hid (vecL_in hIa true m (by omega))
        have HBi := hid (vecL_in hIb true m (by omega))
        clear HVc1 HVc2 HVA HVB HST HK hIa hIb d60 d40 d41 hr2 hS hU
        generalize vecL la true m = A at *
        generalize vecL lb true m = B at *
        obtain ⟨pA, cA, rfl, hkA, hcA⟩ := q6
        obtain ⟨pB, cB, rfl, hkB, hcB⟩ := q7
        have HVA := hid (show Vw wE (.slice pA A.length cA) A from ⟨_, _, rfl, hkA, hcA⟩)
        have HVB := hid (show Vw wE (.slice pB B.length cB) B from ⟨_, _, rfl, hkB, hcB⟩)
        have HCA := hid (show ∀ w', Up wE w' → ∀ i, i < m → ∃ ad, pA = some ad ∧ w'.cell? (ad.add i) = some (.int .i64 (zth A i)) from fun w' hu i hi => by obtain ⟨ad, h1, h2⟩ := hcA i (by omega); exact ⟨ad, h1, hu.cellEq h2⟩)
        have HCB := hid (show ∀ w', Up wE w' → ∀ i, i < m → ∃ ad, pB = some ad ∧ w'.cell? (ad.add i) = some (.int .i64 (zth B i)) from fun w' hu i hi => by obtain ⟨ad, h1, h2⟩ := hcB i (by omega); exact ⟨ad, h1, hu.cellEq h2⟩)
        have HAl := hid hAl
        have HBl := hid hBl
        rw [hAl, hBl]
        have hCl : (addL m A B).length = m := mk_len _ _
        have HCl := hid hCl
        have HCt := hid (fun i (hi : i < m) => show (addL m A B).take (i + 1) = (addL m A B).take i ++ [zth A i + zth B i] from mk_take_succ (fun i => zth A i + zth B i) hi)
        have HCz := hid (fun i (hi : i < m) => show zth (addL m A B) i = zth A i + zth B i from mk_at hi)
        have m8' : m ≤ 8 := by omega
        have HS5 := hid hS5
        have HR := hid hR
        clear hkA hcA hkB hcB hAl hBl hCl hS5 hR m8 m0
        generalize addL m A B = C at *
        go_wp2_with fail
        go_loopg [14, 15] m (fun g tc ti wr => ∃ i : Nat, i ≤ m ∧ m - i ≤ g ∧ ti = .int .i64 (i : Nat) ∧ OwnI wr wE.heap.size tc (C.take i) ∧ Up wE wr)
        case atStart => exact ⟨0, Nat.zero_le _, by omega, rfl, by rw [List.take_zero]; exact OwnI.nil _ _, Up.refl _⟩
        case round =>
          obtain ⟨i, hi, hig, rfl, hO, hu⟩ := hrel
          have hBm := hS1.up hu
          have hcm := hBm.cell 0 rfl
          obtain ⟨pC, nC, cC, rfl⟩ := OwnI.slice hO
          by_cases hlt : i < m
          · obtain ⟨ad, rfl, hca⟩ := HCA.out _ hu i hlt
            obtain ⟨bd, rfl, hcb⟩ := HCB.out _ hu i hlt
            have e1 : IntKind.i64.wrap ((i : Int) + 1) = (i : Int) + 1 := IntWalk.i64_in _ (by omega)
            have h1 := HSA.out i hlt
            have h2 := HSB.out i hlt
            have e2 : IntKind.i64.wrap (zth A i + zth B i) = zth A i + zth B i := IntWalk.i64_in _ (by omega)
            have HTk : Hid ((C.take i).length < 1000000) := hid (by rw [List.length_take]; omega)
            have HT9 := hid (HCt.out i hlt)
            clear h1 h2
            generalize zth A i = x at *
            generalize zth B i = y at *
            go_wp2_with fail
            refine wp_region_upH (S := (fun wq => wq.cell? (ad.add i) = some (.int .i64 x) ∧ wq.cell? (bd.add i) = some (.int .i64 y) ∧ OwnI wq wE.heap.size (.slice pC nC cC) (C.take i) ∧ Up wr wq ∧ Below w.heap.size w wq)) (req := (fun j => j != 11)) (by kernel_rfl) (fun _ _ h hu => ⟨hu.cell (h.1), hu.cell (h.2.1), (h.2.2.1).up hu, (h.2.2.2.1).trans hu, below_up (h.2.2.2.2) hu⟩) ⟨(by first | assumption | (apply Blk.cell; exact gBlk; exact rfl)), (by first | assumption | (apply Blk.cell; exact gBlk; exact rfl)), (by assumption), (by first | exact Up.refl _ | assumption), gUp⟩ (fun wS hSS hSu => ?_)
            have ⟨hS1, hS2, hS3, hS4, hSB⟩ := hSS
            refine wpAnyU_pure (i := 0) (d := (some 54)) (v := ?_) rfl rfl (by kernel_rfl) (fun _ _ _ h => h) hSu.out (Or.inl ⟨by rfl, fun w' _ => yu_value ?_⟩) ?_
            rotate_left
            · (go_simp; (try exact rfl))
            try simp only [Act.put, pu1, pu2, pu3]
            refine wpAnyU_pure (i := 1) (d := (some 55)) (v := ?_) rfl rfl (by kernel_rfl) (fun _ _ _ h => h) hSu.out (Or.inl ⟨by rfl, fun w' _ => yu_value ?_⟩) ?_
            rotate_left
            · (go_simp; (try exact rfl))
            try simp only [Act.put, pu1, pu2, pu3]
            refine wpAnyU_pure (i := 2) (d := (some 56)) (v := ?_) rfl rfl (by kernel_rfl) (fun _ _ _ h => h) hSu.out (Or.inl ⟨by rfl, fun w' _ => yu_value ?_⟩) ?_
            rotate_left
            · (go_simp; (try exact rfl))
            try simp only [Act.put, pu1, pu2, pu3]
            refine wpAnyU_pure (i := 3) (d := (some 57)) (v := ?_) rfl rfl (by kernel_rfl) (fun _ _ _ h => h) hSu.out (Or.inl ⟨by rfl, fun w' _ => yu_value ?_⟩) ?_
            rotate_left
            · (go_simp; (try exact rfl))
            try simp only [Act.put, pu1, pu2, pu3]
            refine wpAnyU_take (i := 4) (d := (some 58)) (v := ?_) rfl rfl (by kernel_rfl) (fun _ _ _ h => h) hSu.out hSS (Or.inl ⟨by rfl, fun w' hSw => yu_value ?_⟩) ?_
            rotate_left
            · ((try dsimp only at hSw); (try obtain ⟨_, _, _, _, _⟩ := hSw); go_simp; (try exact rfl))
            try simp only [Act.put, pu1, pu2, pu3]
            refine wpAnyU_pure (i := 5) (d := (some 59)) (v := ?_) rfl rfl (by kernel_rfl) (fun _ _ _ h => h) hSu.out (Or.inl ⟨by rfl, fun w' _ => yu_value ?_⟩) ?_
            rotate_left
            · (go_simp; (try exact rfl))
            try simp only [Act.put, pu1, pu2, pu3]
            refine wpAnyU_pure (i := 6) (d := (some 60)) (v := ?_) rfl rfl (by kernel_rfl) (fun _ _ _ h => h) hSu.out (Or.inl ⟨by rfl, fun w' _ => yu_value ?_⟩) ?_
            rotate_left
            · (go_simp; (try exact rfl))
            try simp only [Act.put, pu1, pu2, pu3]
            refine wpAnyU_pure (i := 7) (d := (some 61)) (v := ?_) rfl rfl (by kernel_rfl) (fun _ _ _ h => h) hSu.out (Or.inl ⟨by rfl, fun w' _ => yu_value ?_⟩) ?_
            rotate_left
            · (go_simp; (try exact rfl))
            try simp only [Act.put, pu1, pu2, pu3]
            refine wpAnyU_take (i := 8) (d := (some 62)) (v := ?_) rfl rfl (by kernel_rfl) (fun _ _ _ h => h) hSu.out hSS (Or.inl ⟨by rfl, fun w' hSw => yu_value ?_⟩) ?_
            rotate_left
            · ((try dsimp only at hSw); (try obtain ⟨_, _, _, _, _⟩ := hSw); go_simp; (try exact rfl))
            try simp only [Act.put, pu1, pu2, pu3]
            refine wpAnyU_pure (i := 9) (d := (some 63)) (v := ?_) rfl rfl (by kernel_rfl) (fun _ _ _ h => h) hSu.out (Or.inl ⟨by rfl, fun w' _ => yu_value ?_⟩) ?_
            rotate_left
            · (go_simp; (try exact rfl))
            try simp only [Act.put, pu1, pu2, pu3]
            refine wpAnyU_one (i := 10) rfl (by kernel_rfl) (by rfl) fun w1 hw1 => ?_
            go_simp
            refine ⟨fun h1 h2 h3 h4 h5 => ⟨(Up.alloc _ _).cell h1, (Up.alloc _ _).cell h2, h3.up (Up.alloc _ _), h4.trans (Up.alloc _ _), below_up h5 (Up.alloc _ _)⟩, ?_⟩
            have gO := (hS3.up hw1).up (Up.alloc w1 (.cells #[.int .i64 (x + y)] 2))
            have gU := (hS4.trans hw1).trans (Up.alloc w1 (.cells #[.int .i64 (x + y)] 2))
            have gC := (Blk.new (w := w1) (b := w1.heap.size) 2 #[.int .i64 (x + y)] rfl).cell 0 rfl
            refine wpAnyU_one (i := 11) rfl (by kernel_rfl) (by rfl) fun w2 hw2 => ?_
            refine wp_appV1 _ _ rfl rfl rfl (gO.up hw2) (hw2.cell gC) (Nat.le_trans hu.size (gU.trans hw2).size) HTk.out fun v3 w3 hO3 hb3 => ?_
            refine ⟨fun h => by simp at h, ?_⟩
            try simp only [Act.put, pu1, pu2, pu3]
            refine wpAnyU_pure (i := 12) (d := (some 14)) (v := ?_) rfl rfl (by kernel_rfl) (fun _ _ _ h => h) hSu.out (Or.inl ⟨by rfl, fun w' _ => yu_value ?_⟩) ?_
            rotate_left
            · (go_simp; (try exact rfl))
            try simp only [Act.put, pu1, pu2, pu3]
            refine wpAnyU_done (by kernel_rfl) (fun wF huE => ?_) _
            have fO := hO3.up huE
            have fU := Up.trans (Below.trans (hu.trans (gU.trans hw2)) hb3) huE
            clear hS1 hS2 hS3 hS4 hSB hSS gO gU gC hw1 hw2 hO3 hb3 huE
            go_wp2_with fail
            go_roundg (m - (i + 1))
            case measure => omega
            case rel => exact ⟨i + 1, hlt, Nat.le_refl _, rfl, by rw [HT9.out]; exact fO, fU⟩
          · obtain rfl : i = m := by omega
            rw [List.take_of_length_le (by rw [HCl.out]; exact Nat.le_refl _)] at hO
            have hVC := hO.vw
            have hCi : In64 C := fun k hk => by
              have hk' : k < i := by rw [← HCl.out]; exact hk
              have h1 := HSA.out k hk'
              have h2 := HSB.out k hk'
              rw [HCz.out k hk']
              unfold I64; omega
            have sA := slC_fit HR.out HAl.out (fun k hk => by have := HSA.out k hk; omega)
            have sB := slC_fit HR.out HBl.out (fun k hk => by have := HSB.out k hk; omega)
            have sC := slC_fit HR.out HCl.out (fun k hk => by have h1 := HSA.out k hk; have h2 := HSB.out k hk; rw [HCz.out k hk]; omega)
            have hUr := hUE.trans hu
            obtain ⟨pC', cC', hCv, -, -⟩ := id hVC
            rw [HCl.out] at hCv
            injection hCv with z1 z2 z3
            subst z1 z2 z3
            have HVAr := hid (show Vw wr (.slice pA nC cA) A from HAl.out ▸ Vw.up hu HVA.out)
            have HVBr := hid (show Vw wr (.slice pB nC cB) B from HBl.out ▸ Vw.up hu HVB.out)
            have HVCr := hid hVC
            have HSr := hid (HS5.out.up hu)
            have HCi := hid hCi
            cases hd : dfV nC L with
            | false =>
              rw [hd, if_neg (by decide)] at sA sB sC
              have HXA := hid (fun w' (hu : Up wr w') => exact_bad (HSr.out.up hu) (Vw.up hu HVAr.out) HAi.out (by rw [HAl.out]; omega) sA (by decide))
              have HXB := hid (fun w' (hu : Up wr w') => exact_bad (HSr.out.up hu) (Vw.up hu HVBr.out) HBi.out (by rw [HBl.out]; omega) sB (by decide))
              have HXC := hid (fun w' (hu : Up wr w') => exact_bad (HSr.out.up hu) (Vw.up hu HVCr.out) HCi.out (by rw [HCl.out]; omega) sC (by decide))
              clear sA sB sC hd hO hVC hCi
              go_wp2_with (first
                | ((with_reducible apply ldM_P); exact rfl; exact rfl; (first | exact hBm | exact hBm.up hu6 | exact hBm.up hu67); exact rfl)
                | (go_at_call 32; first
                    | ((with_reducible refine (HXA.out _ (Up.refl _)).mono ?_); rintro r w6 ⟨t6, y6, rfl, hu6, he6⟩)
                    | ((with_reducible refine (HXB.out _ hu6).mono ?_); rintro r w7 ⟨t7, y7, rfl, hu7, he7⟩; have hu67 := hu6.trans hu7)
                    | ((with_reducible refine (HXC.out _ hu67).mono ?_); rintro r w8 ⟨t8, y8, rfl, hu8, he8⟩; have he68 := he6.up (hu7.trans hu8); have he78 := he7.up hu8; have hU8 := hUr.trans (hu67.trans hu8)))
                | (go_at_call 36; first
                    | ((with_reducible refine (ssays_any he68 (HG.out _ hU8)).mono ?_); rintro r w9 ⟨rfl, hu9⟩; have hU9 := hU8.trans hu9)
                    | ((with_reducible refine (ssays_any (he78.up hu9) (HG.out _ hU9)).mono ?_); rintro r w10 ⟨rfl, hu10⟩; have hU10 := hU9.trans hu10)
                    | ((with_reducible refine (ssays_any (he8.up (hu9.trans hu10)) (HG.out _ hU10)).mono ?_); rintro r w11 ⟨rfl, hu11⟩)))
              go_ret
              exact ⟨rfl, hU10.trans hu11⟩
            | true =>
              rw [hd, if_pos rfl] at sA sB sC
              obtain ⟨m1, hm1, hDA, -⟩ := slC_def sA
              obtain rfl : nC = m1 := by omega
              obtain ⟨m2, hm2, hDB, -⟩ := slC_def sB
              obtain rfl : nC = m2 := by omega
              obtain ⟨m3, hm3, hDC, -⟩ := slC_def sC
              obtain rfl : nC = m3 := by omega
              have HXA := hid (fun w' (hu : Up wr w') => exact_ok (HSr.out.up hu) (Vw.up hu HVAr.out) HAi.out (by rw [HAl.out]; omega) sA)
              have HXB := hid (fun w' (hu : Up wr w') => exact_ok (HSr.out.up hu) (Vw.up hu HVBr.out) HBi.out (by rw [HBl.out]; omega) sB)
              have HXC := hid (fun w' (hu : Up wr w') => exact_ok (HSr.out.up hu) (Vw.up hu HVCr.out) HCi.out (by rw [HCl.out]; omega) sC)
              have HSum := hid (fun i (hi : i < nC) => slX_sum hDA hDB hDC HCz.out hi)
              have HBA := hid (fun i => hDA.num_bp i)
              have HBB := hid (fun i => hDB.num_bp i)
              have HBC := hid (fun i => hDC.num_bp i)
              clear sA sB sC hd hO hVC hCi hDA hDB hDC hm1 hm2 hm3
              go_upto_region 15 with (first
                | ((with_reducible apply ldM_P); exact rfl; exact rfl; (first | exact hBm | exact hBm.up hu6 | exact hBm.up hu67); exact rfl)
                | (go_at_call 32; first
                    | ((with_reducible refine (HXA.out _ (Up.refl _)).mono ?_); rintro r w6 ⟨p6, c6, rfl, hu6, hF6⟩)
                    | ((with_reducible refine (HXB.out _ hu6).mono ?_); rintro r w7 ⟨p7, c7, rfl, hu7, hF7⟩; have hu67 := hu6.trans hu7)
                    | ((with_reducible refine (HXC.out _ hu67).mono ?_); rintro r w8 ⟨p8, c8, rfl, hu8, hF8⟩)))
              have hU8 := hUr.trans (hu67.trans hu8)
              have hB8 := hBm.up (hu67.trans hu8)
              have HF6 := hid (hF6.up (hu7.trans hu8))
              have HF7 := hid (hF7.up hu8)
              have HF8 := hid hF8
              have hcm8 := hB8.cell 0 rfl
              have HLa := hid (show (slL nC L A).length = nC from mk_len _ _)
              have HLb := hid (show (slL nC L B).length = nC from mk_len _ _)
              have HLc := hid (show (slL nC L C).length = nC from mk_len _ _)
              have HZa := hid (fun i (hi : i < nC) => show zth (slL nC L A) i = slX nC L A i from mk_at hi)
              have HZb := hid (fun i (hi : i < nC) => show zth (slL nC L B) i = slX nC L B i from mk_at hi)
              have HZc := hid (fun i (hi : i < nC) => show zth (slL nC L C) i = slX nC L C i from mk_at hi)
              clear hF6 hF7 hF8 hu67 hu6 hu7 hu8 hcm
              generalize slL nC L A = EA at *
              generalize slL nC L B = EB at *
              generalize slL nC L C = EC at *
              generalize slX nC L A = XA at *
              generalize slX nC L B = XB at *
              generalize slX nC L C = XC at *
              generalize slD nC L = D at *
              go_wp2_with fail
              clear hcm8
              go_loopg [22] nC (fun g ti wr => ∃ i : Nat, i ≤ nC ∧ nC - i ≤ g ∧ ti = .int .i64 (i : Nat) ∧ Up w8 wr)
              case atStart => exact ⟨0, Nat.zero_le _, by omega, rfl, Up.refl _⟩
              case round =>
                obtain ⟨i, hi, hig, rfl, hui⟩ := hrel
                have hcm := (hB8.up hui).cell 0 rfl
                by_cases hil : i < nC
                · obtain ⟨g6, q6, C6, hv6, -, hB6, ht6⟩ := HF6.out.open (by rw [HLa.out]; omega)
                  rw [HLa.out] at hv6
                  injection hv6 with x1 x2 x3
                  subst x1 x3
                  obtain ⟨g7, q7, C7, hv7, -, hB7, ht7⟩ := HF7.out.open (by rw [HLb.out]; omega)
                  rw [HLb.out] at hv7
                  injection hv7 with x1 x2 x3
                  subst x1 x3
                  obtain ⟨g8, q8, C8, hv8, -, hB88, ht8⟩ := HF8.out.open (by rw [HLc.out]; omega)
                  rw [HLc.out] at hv8
                  injection hv8 with x1 x2 x3
                  subst x1 x3
                  have HRa := hid (fun w' (hB : Blk w' g6 76 C6) => fc_num (HZa.out i hil ▸ fv_range hB ht6 (by rw [HLa.out]; exact hil)))
                  have HRb := hid (fun w' (hB : Blk w' g7 76 C7) => fc_num (HZb.out i hil ▸ fv_range hB ht7 (by rw [HLb.out]; exact hil)))
                  have HRc := hid (fun w' (hB : Blk w' g8 76 C8) => fc_num (HZc.out i hil ▸ fv_range hB ht8 (by rw [HLc.out]; exact hil)))
                  have ba := HBA.out i
                  have bb := HBB.out i
                  have bc := HBC.out i
                  have hs := HSum.out i hil
                  have e1 : IntKind.i64.wrap ((i : Int) + 1) = (i : Int) + 1 := IntWalk.i64_in _ (by omega)
                  have HGa := hid (fun w => sbig_any (few_inR (k := 5) (by omega) ba) w)
                  have HGb := hid (fun w => sbig_any (few_inR (k := 5) (by omega) bb) w)
                  have HGc := hid (fun w => sbig_any (few_inR (k := 5) (by omega) bc) w)
                  have HAd := hid (fun (va vb : Value) (w : World) (h1 : Big w va (XA i)) (h2 : Big w vb (XB i)) => hs ▸ add_big h1 h2 (nl_bp (k := 5) (by omega) ba) (nl_bp (k := 5) (by omega) bb))
                  have HCm := hid (fun (va vb : Value) (w : World) (h1 : Big w va (XC i)) (h2 : Big w vb (XC i)) => cmp_big h1 h2 (nl_bp (k := 5) (by omega) bc) (nl_bp (k := 5) (by omega) bc))
                  simp only [cmpZ_refl] at HCm
                  have hb6 := hB6.up hui
                  have hb7 := hB7.up hui
                  have hb8 := hB88.up hui
                  clear ht6 ht7 ht8 ba bb bc hs x2 hB6 hB7 hB88
                  generalize XA i = xa at *
                  generalize XB i = xb at *
                  generalize XC i = xc at *
                  go_wp2_with fail
                  refine wp_region_sp (n := 150) 21 [129, 130, 131, 132, 133, 134, 135, 136, 137, 138, 139, 140, 141, 142, 143, 144, 145, 146, 147, 148, 149] [SP.is (.slice (some ⟨g6, 0, none⟩) nC c6), SP.is (.int .i64 (i : Nat)), SP.is (.pointer (some ⟨g6, i * 32, none⟩)), SP.is (.pointer (some ⟨g6, i * 32, none⟩)), SP.is (.agg (cells 16 (limb (enc xa)))), SP.of (fun v w1 => Big w1 v xa) (fun _ _ _ h hu => h.up hu), SP.is (.slice (some ⟨g7, 0, none⟩) nC c7), SP.is (.int .i64 (i : Nat)), SP.is (.pointer (some ⟨g7, i * 32, none⟩)), SP.is (.pointer (some ⟨g7, i * 32, none⟩)), SP.is (.agg (cells 16 (limb (enc xb)))), SP.of (fun v w1 => Big w1 v xb) (fun _ _ _ h hu => h.up hu), SP.of (fun v w1 => Big w1 v xc) (fun _ _ _ h hu => h.up hu), SP.is (.slice (some ⟨g8, 0, none⟩) nC c8), SP.is (.int .i64 (i : Nat)), SP.is (.pointer (some ⟨g8, i * 32, none⟩)), SP.is (.pointer (some ⟨g8, i * 32, none⟩)), SP.is (.agg (cells 16 (limb (enc xc)))), SP.of (fun v w1 => Big w1 v xc) (fun _ _ _ h hu => h.up hu), SP.is (.int .i64 0), SP.is (.bool false)] (fun wq => Blk wq g6 76 C6 ∧ Blk wq g7 76 C7 ∧ Blk wq g8 76 C8 ∧ Up wr wq ∧ Below w.heap.size w wq) (by kernel_rfl) (by rfl) (by kernel_rfl) (by kernel_rfl) (fun _ _ h hu => ⟨(h.1).up hu, (h.2.1).up hu, (h.2.2.1).up hu, (h.2.2.2.1).trans hu, below_up (h.2.2.2.2) hu⟩) ⟨(by first | assumption | exact gBlk), (by first | assumption | exact gBlk), (by first | assumption | exact gBlk), (by first | exact Up.refl _ | assumption), gUp⟩ (fun ev w9 hS9 i o hne hi hev => ?_) (fun gR wE hq hSE huE => ?_)
                  · have ⟨hS1, hS2, hS3, hS4, hSB⟩ := hS9
                    have hcC := hev.const
                    have hcF := hev.func
                    have hcG := hev.global
                    rcases i with _ | _ | _ | _ | _ | _ | _ | _ | _ | _ | _ | _ | _ | _ | _ | _ | _ | _ | _ | _ | _ | i
                    · obtain rfl := Option.some.inj (show some _ = some o from hi)
                      have e16 := hev.other 16 (by kernel_rfl)
                      simp [Act.eval] at e16
                      exact leavesR_value (u := .slice (some ⟨g6, 0, none⟩) nC c6) (by first | (go_simp; done) | (go_simp; exact rfl)) rfl
                    · obtain rfl := Option.some.inj (show some _ = some o from hi)
                      have e22 := hev.other 22 (by kernel_rfl)
                      simp [Act.eval] at e22
                      exact leavesR_value (u := .int .i64 (i : Nat)) (by first | (go_simp; done) | (go_simp; exact rfl)) rfl
                    · obtain rfl := Option.some.inj (show some _ = some o from hi)
                      have e129 : ev (.tmp 129) = (.slice (some ⟨g6, 0, none⟩) nC c6) := hev.dep 0 129 (by kernel_rfl)
                      have e130 : ev (.tmp 130) = (.int .i64 (i : Nat)) := hev.dep 1 130 (by kernel_rfl)
                      exact leavesR_value (u := .pointer (some ⟨g6, i * 32, none⟩)) (by first | (go_simp; done) | (go_simp; exact rfl)) rfl
                    · obtain rfl := Option.some.inj (show some _ = some o from hi)
                      have e131 : ev (.tmp 131) = (.pointer (some ⟨g6, i * 32, none⟩)) := hev.dep 2 131 (by kernel_rfl)
                      exact leavesR_value (u := .pointer (some ⟨g6, i * 32, none⟩)) (by first | (go_simp; done) | (go_simp; exact rfl)) rfl
                    · obtain rfl := Option.some.inj (show some _ = some o from hi)
                      have e132 : ev (.tmp 132) = (.pointer (some ⟨g6, i * 32, none⟩)) := hev.dep 3 132 (by kernel_rfl)
                      exact leavesR_value (run_ldW rfl e132 (HRa.out _ hS1)) rfl
                    · obtain rfl := Option.some.inj (show some _ = some o from hi)
                      have e133 : ev (.tmp 133) = (.agg (cells 16 (limb (enc xa)))) := hev.dep 4 133 (by kernel_rfl)
                      refine leavesR_call ?_ (HGa.out _)
                      go_simp
                    · obtain rfl := Option.some.inj (show some _ = some o from hi)
                      have e18 := hev.other 18 (by kernel_rfl)
                      simp [Act.eval] at e18
                      exact leavesR_value (u := .slice (some ⟨g7, 0, none⟩) nC c7) (by first | (go_simp; done) | (go_simp; exact rfl)) rfl
                    · obtain rfl := Option.some.inj (show some _ = some o from hi)
                      have e22 := hev.other 22 (by kernel_rfl)
                      simp [Act.eval] at e22
                      exact leavesR_value (u := .int .i64 (i : Nat)) (by first | (go_simp; done) | (go_simp; exact rfl)) rfl
                    · obtain rfl := Option.some.inj (show some _ = some o from hi)
                      have e135 : ev (.tmp 135) = (.slice (some ⟨g7, 0, none⟩) nC c7) := hev.dep 6 135 (by kernel_rfl)
                      have e136 : ev (.tmp 136) = (.int .i64 (i : Nat)) := hev.dep 7 136 (by kernel_rfl)
                      exact leavesR_value (u := .pointer (some ⟨g7, i * 32, none⟩)) (by first | (go_simp; done) | (go_simp; exact rfl)) rfl
                    · obtain rfl := Option.some.inj (show some _ = some o from hi)
                      have e137 : ev (.tmp 137) = (.pointer (some ⟨g7, i * 32, none⟩)) := hev.dep 8 137 (by kernel_rfl)
                      exact leavesR_value (u := .pointer (some ⟨g7, i * 32, none⟩)) (by first | (go_simp; done) | (go_simp; exact rfl)) rfl
                    · obtain rfl := Option.some.inj (show some _ = some o from hi)
                      have e138 : ev (.tmp 138) = (.pointer (some ⟨g7, i * 32, none⟩)) := hev.dep 9 138 (by kernel_rfl)
                      exact leavesR_value (run_ldW rfl e138 (HRb.out _ hS2)) rfl
                    · obtain rfl := Option.some.inj (show some _ = some o from hi)
                      have e139 : ev (.tmp 139) = (.agg (cells 16 (limb (enc xb)))) := hev.dep 10 139 (by kernel_rfl)
                      refine leavesR_call ?_ (HGb.out _)
                      go_simp
                    · obtain rfl := Option.some.inj (show some _ = some o from hi)
                      have e134 : (fun v w1 => Big w1 v xa) (ev (.tmp 134)) w9 := hev.dep 5 134 (by kernel_rfl)
                      dsimp only at e134
                      obtain ⟨v134, hv134⟩ : ∃ v, ev (.tmp 134) = v := ⟨_, rfl⟩
                      rw [hv134] at e134
                      have e140 : (fun v w1 => Big w1 v xb) (ev (.tmp 140)) w9 := hev.dep 11 140 (by kernel_rfl)
                      dsimp only at e140
                      obtain ⟨v140, hv140⟩ : ∃ v, ev (.tmp 140) = v := ⟨_, rfl⟩
                      rw [hv140] at e140
                      refine leavesR_call ?_ (HAd.out _ _ _ e134 e140)
                      go_simp
                    · obtain rfl := Option.some.inj (show some _ = some o from hi)
                      have e20 := hev.other 20 (by kernel_rfl)
                      simp [Act.eval] at e20
                      exact leavesR_value (u := .slice (some ⟨g8, 0, none⟩) nC c8) (by first | (go_simp; done) | (go_simp; exact rfl)) rfl
                    · obtain rfl := Option.some.inj (show some _ = some o from hi)
                      have e22 := hev.other 22 (by kernel_rfl)
                      simp [Act.eval] at e22
                      exact leavesR_value (u := .int .i64 (i : Nat)) (by first | (go_simp; done) | (go_simp; exact rfl)) rfl
                    · obtain rfl := Option.some.inj (show some _ = some o from hi)
                      have e142 : ev (.tmp 142) = (.slice (some ⟨g8, 0, none⟩) nC c8) := hev.dep 13 142 (by kernel_rfl)
                      have e143 : ev (.tmp 143) = (.int .i64 (i : Nat)) := hev.dep 14 143 (by kernel_rfl)
                      exact leavesR_value (u := .pointer (some ⟨g8, i * 32, none⟩)) (by first | (go_simp; done) | (go_simp; exact rfl)) rfl
                    · obtain rfl := Option.some.inj (show some _ = some o from hi)
                      have e144 : ev (.tmp 144) = (.pointer (some ⟨g8, i * 32, none⟩)) := hev.dep 15 144 (by kernel_rfl)
                      exact leavesR_value (u := .pointer (some ⟨g8, i * 32, none⟩)) (by first | (go_simp; done) | (go_simp; exact rfl)) rfl
                    · obtain rfl := Option.some.inj (show some _ = some o from hi)
                      have e145 : ev (.tmp 145) = (.pointer (some ⟨g8, i * 32, none⟩)) := hev.dep 16 145 (by kernel_rfl)
                      exact leavesR_value (run_ldW rfl e145 (HRc.out _ hS3)) rfl
                    · obtain rfl := Option.some.inj (show some _ = some o from hi)
                      have e146 : ev (.tmp 146) = (.agg (cells 16 (limb (enc xc)))) := hev.dep 17 146 (by kernel_rfl)
                      refine leavesR_call ?_ (HGc.out _)
                      go_simp
                    · obtain rfl := Option.some.inj (show some _ = some o from hi)
                      have e141 : (fun v w1 => Big w1 v xc) (ev (.tmp 141)) w9 := hev.dep 12 141 (by kernel_rfl)
                      dsimp only at e141
                      obtain ⟨v141, hv141⟩ : ∃ v, ev (.tmp 141) = v := ⟨_, rfl⟩
                      rw [hv141] at e141
                      have e147 : (fun v w1 => Big w1 v xc) (ev (.tmp 147)) w9 := hev.dep 18 147 (by kernel_rfl)
                      dsimp only at e147
                      obtain ⟨v147, hv147⟩ : ∃ v, ev (.tmp 147) = v := ⟨_, rfl⟩
                      rw [hv147] at e147
                      refine leavesR_call ?_ ((HCm.out _ _ _ e141 e147).mono fun _ _ h => ⟨h.2, _, h.1, rfl⟩)
                      go_simp
                    · obtain rfl := Option.some.inj (show some _ = some o from hi)
                      have e148 : ev (.tmp 148) = (.int .i64 0) := hev.dep 19 148 (by kernel_rfl)
                      exact leavesR_value (u := .bool false) (by first | (go_simp; done) | (go_simp; exact rfl)) rfl
                    · exact absurd (show i + 21 < 21 from (Array.getElem?_eq_some_iff.1 hi).1) (by omega)
                  have ⟨hS1, hS2, hS3, hS4, hSB⟩ := hSE
                  have q0 : gR 129 = (.slice (some ⟨g6, 0, none⟩) nC c6) := hq 0 129 (by decide) (by kernel_rfl)
                  have q1 : gR 130 = (.int .i64 (i : Nat)) := hq 1 130 (by decide) (by kernel_rfl)
                  have q2 : gR 131 = (.pointer (some ⟨g6, i * 32, none⟩)) := hq 2 131 (by decide) (by kernel_rfl)
                  have q3 : gR 132 = (.pointer (some ⟨g6, i * 32, none⟩)) := hq 3 132 (by decide) (by kernel_rfl)
                  have q4 : gR 133 = (.agg (cells 16 (limb (enc xa)))) := hq 4 133 (by decide) (by kernel_rfl)
                  have q5 : (fun v w1 => Big w1 v xa) (gR 134) wE := hq 5 134 (by decide) (by kernel_rfl)
                  dsimp only at q5
                  obtain ⟨v134, hv134⟩ : ∃ v, gR 134 = v := ⟨_, rfl⟩
                  rw [hv134] at q5
                  have q6 : gR 135 = (.slice (some ⟨g7, 0, none⟩) nC c7) := hq 6 135 (by decide) (by kernel_rfl)
                  have q7 : gR 136 = (.int .i64 (i : Nat)) := hq 7 136 (by decide) (by kernel_rfl)
                  have q8 : gR 137 = (.pointer (some ⟨g7, i * 32, none⟩)) := hq 8 137 (by decide) (by kernel_rfl)
                  have q9 : gR 138 = (.pointer (some ⟨g7, i * 32, none⟩)) := hq 9 138 (by decide) (by kernel_rfl)
                  have q10 : gR 139 = (.agg (cells 16 (limb (enc xb)))) := hq 10 139 (by decide) (by kernel_rfl)
                  have q11 : (fun v w1 => Big w1 v xb) (gR 140) wE := hq 11 140 (by decide) (by kernel_rfl)
                  dsimp only at q11
                  obtain ⟨v140, hv140⟩ : ∃ v, gR 140 = v := ⟨_, rfl⟩
                  rw [hv140] at q11
                  have q12 : (fun v w1 => Big w1 v xc) (gR 141) wE := hq 12 141 (by decide) (by kernel_rfl)
                  dsimp only at q12
                  obtain ⟨v141, hv141⟩ : ∃ v, gR 141 = v := ⟨_, rfl⟩
                  rw [hv141] at q12
                  have q13 : gR 142 = (.slice (some ⟨g8, 0, none⟩) nC c8) := hq 13 142 (by decide) (by kernel_rfl)
                  have q14 : gR 143 = (.int .i64 (i : Nat)) := hq 14 143 (by decide) (by kernel_rfl)
                  have q15 : gR 144 = (.pointer (some ⟨g8, i * 32, none⟩)) := hq 15 144 (by decide) (by kernel_rfl)
                  have q16 : gR 145 = (.pointer (some ⟨g8, i * 32, none⟩)) := hq 16 145 (by decide) (by kernel_rfl)
                  have q17 : gR 146 = (.agg (cells 16 (limb (enc xc)))) := hq 17 146 (by decide) (by kernel_rfl)
                  have q18 : (fun v w1 => Big w1 v xc) (gR 147) wE := hq 18 147 (by decide) (by kernel_rfl)
                  dsimp only at q18
                  obtain ⟨v147, hv147⟩ : ∃ v, gR 147 = v := ⟨_, rfl⟩
                  rw [hv147] at q18
                  have q19 : gR 148 = (.int .i64 0) := hq 19 148 (by decide) (by kernel_rfl)
                  have q20 : gR 149 = (.bool false) := hq 20 149 (by decide) (by kernel_rfl)
                  refine ⟨fun _ => ?_, fun o ho => by simp at ho⟩
                  simp only [putL, List.map_cons, List.map_nil, q0, q1, q2, q3, q4, hv134, q6, q7, q8, q9, q10, hv140, hv141, q13, q14, q15, q16, q17, hv147, q19, q20, Act.put, pu1, pu2, pu3]
                  clear hq hSE q0 q1 q2 q3 q4 q6 q7 q8 q9 q10 q13 q14 q15 q16 q17 q19 q20
                  clear q5 q11 q12 q18 hS1 hS2 hS3 hSB huE
                  have hU9 := hui.trans hS4
                  clear hS4
                  go_wp2_with fail
                  go_roundg (nC - (i + 1))
                  case measure => omega
                  case rel => exact ⟨i + 1, hil, Nat.le_refl _, rfl, hU9⟩
                · obtain rfl : i = nC := by omega
                  go_wp2_with fail
                  go_ret
                  exact ⟨rfl, hU8.trans hui⟩
      · have d41 : decide ((40 : Int) < (lb.length : Int)) = true := decide_eq_true (by omega)
        clear hhc h16 hg hn hd
        go_enter Tryz.func10, Tryz.ntmps10
        go_wp2_with (first
          | (go_at_call 30; (with_reducible refine (HK.out _ (Up.refl _)).mono ?_); rintro r w1 ⟨rfl, hu1⟩))
        go_ret
        exact ⟨rfl, hu1⟩
    · have d40 : decide ((40 : Int) < (la.length : Int)) = true := decide_eq_true (by omega)
      clear hhc h16 hg hn hd
      go_enter Tryz.func10, Tryz.ntmps10
      go_wp2_with (first
        | (go_at_call 30; (with_reducible refine (HK.out _ (Up.refl _)).mono ?_); rintro r w1 ⟨rfl, hu1⟩))
      go_ret
      exact ⟨rfl, hu1⟩
  · have d60 : decide ((60 : Int) < (hs.length : Int)) = true := decide_eq_true (by omega)
    clear hhc h16 hg hn hd
    go_enter Tryz.func10, Tryz.ntmps10
    go_wp2_with (first
      | (go_at_call 30; (with_reducible refine (HK.out _ (Up.refl _)).mono ?_); rintro r w1 ⟨rfl, hu1⟩))
    go_ret
    exact ⟨rfl, hu1⟩
theorem sums_row {w : World} {a0 a1 : Int} {p2 p3 p4 : Option Addr} {len2 cap2 len3 cap3 len4 cap4 : Nat} {z2 z3 z4 : List Int} (hg : Glob w) (w0 : (Lit.int .u8 a0).wf = true) (w1 : (Lit.int .u16 a1).wf = true)
    (w2 : IsRowX .i16 w p2 len2 cap2 z2) (w3 : IsRowX .i64 w p3 len3 cap3 z3) (w4 : IsRowX .i64 w p4 len4 cap4 z4) :
    Calls Tryz.prog 10 #[.int .u8 a0, .int .u16 a1, .slice p2 len2 cap2, .slice p3 len3 cap3, .slice p4 len4 cap4] w fun r w' => r = .returned (.bool true) ∧ Up w w' := by
  obtain ⟨n, rfl, hn⟩ := wf_nat (m := 255) w0 IntKind.min_u8 IntKind.max_u8
  obtain ⟨d, rfl, hd⟩ := wf_nat (m := 65535) w1 IntKind.min_u16 IntKind.max_u16
  exact sums_walk n d hg hn hd (vh_row w2).1 (vh_row w2).2 (vw_row w3).1 (vw_row w3).2 (vw_row w4).1 (vw_row w4).2
end Go.Proofs.YtjoenldfjggciaaGreatDoor
