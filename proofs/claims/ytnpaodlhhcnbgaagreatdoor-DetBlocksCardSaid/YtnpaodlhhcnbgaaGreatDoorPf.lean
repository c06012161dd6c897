import Derived.Test.YtnpaodlhhcnbgaaGreatDoorPe
namespace Go.Proofs.YtnpaodlhhcnbgaaGreatDoor
open Go Go.RowKit
set_option maxRecDepth 100000
set_option linter.unusedSimpArgs false
section
variable {P : Program} {ops : Array Oper} {Q : Exit → Act → World → Prop} {md : Region.Mode}
def relB2 (md : Region.Mode) (ops : Array Oper) (n s1 s2 x : Nat) : Bool :=
  ((List.range ops.size).all fun i => ((ops[i]?).map fun o => o.guard.isNone && (o.after.all fun e => !Region.binds md e || decide (e.on < i)) &&
    (if i = s1 ∨ i = s2 then o.dst.isNone else ((o.dst.map fun d => decide (d < n)).getD false) && (List.range ops.size).all fun j => j == i || ((ops[j]?).map fun o' => o'.dst != o.dst).getD true)).getD false) &&
  ((List.range ops.size).all fun j => j == s1 || j == s2 || j == x || waitsU md ops j ops.size s1) && ((List.range ops.size).all fun j => j == s2 || waitsU md ops j ops.size s2) &&
  (decide (x < s1) && decide (s1 < s2) && decide (s2 < ops.size))
theorem relB2_op {n s1 s2 x : Nat} (h : relB2 md ops n s1 s2 x = true) {i : Nat} {o : Oper} (hi : ops[i]? = some o) :
    o.guard = none ∧ (∀ e ∈ o.after, Region.binds md e = true → e.on < i) ∧ (i = s1 ∨ i = s2 → o.dst = none) ∧
    (i ≠ s1 → i ≠ s2 → ∃ d, o.dst = some d ∧ d < n ∧ ∀ j o', ops[j]? = some o' → j ≠ i → o'.dst ≠ some d) := by
  unfold relB2 at h
  simp only [Bool.and_eq_true] at h
  have hlt : i < ops.size := (Array.getElem?_eq_some_iff.1 hi).1
  have h1 := List.all_eq_true.1 h.1.1.1 i (List.mem_range.2 hlt)
  rw [hi] at h1
  simp only [Option.map_some, Option.getD_some, Bool.and_eq_true] at h1
  obtain ⟨⟨h2, h3⟩, h4⟩ := h1
  refine ⟨Option.isNone_iff_eq_none.1 h2, fun e he hb => ?_, fun hs => ?_, fun hs hs' => ?_⟩
  · have := Array.all_eq_true_iff_forall_mem.1 h3 e he
    simpa [hb] using this
  · rw [if_pos hs] at h4
    exact Option.isNone_iff_eq_none.1 h4
  · rw [if_neg (by omega), Bool.and_eq_true] at h4
    cases hd : o.dst with
    | none => rw [hd] at h4; simp at h4
    | some d =>
      rw [hd] at h4
      refine ⟨d, rfl, by simpa using h4.1, fun j o' hj hji => ?_⟩
      have h5 := List.all_eq_true.1 h4.2 j (List.mem_range.2 (Array.getElem?_eq_some_iff.1 hj).1)
      rw [hj] at h5
      simp only [Option.map_some, Option.getD_some, Bool.or_eq_true, beq_iff_eq, bne_iff_ne] at h5
      exact h5.resolve_left hji
theorem relB2_is {n s1 s2 x : Nat} (h : relB2 md ops n s1 s2 x = true) : x < s1 ∧ s1 < s2 ∧ s2 < ops.size := by
  unfold relB2 at h
  simp only [Bool.and_eq_true, decide_eq_true_eq] at h
  omega
theorem relB2_s1 {n s1 s2 x : Nat} (h : relB2 md ops n s1 s2 x = true) {j : Nat} (hj : j < ops.size) (h1 : j ≠ s1) (h2 : j ≠ s2) (h3 : j ≠ x) : waitsU md ops j ops.size s1 = true := by
  unfold relB2 at h
  simp only [Bool.and_eq_true] at h
  have := List.all_eq_true.1 h.1.1.2 j (List.mem_range.2 hj)
  simpa [h1, h2, h3] using this
theorem relB2_s2 {n s1 s2 x : Nat} (h : relB2 md ops n s1 s2 x = true) {j : Nat} (hj : j < ops.size) (h2 : j ≠ s2) : waitsU md ops j ops.size s2 = true := by
  unfold relB2 at h
  simp only [Bool.and_eq_true] at h
  have := List.all_eq_true.1 h.1.2 j (List.mem_range.2 hj)
  simpa [h2] using this
theorem ready2 {n s1 s2 x : Nat} (hB : relB2 md ops n s1 s2 x = true) {listed : Array Bool} (hs : listed.size = ops.size) : ∀ k, k < ops.size → listed.getD k true = false → ∃ i, i ∈ Region.ready md ops listed := by
  intro k
  induction k using Nat.strongRecOn with
  | _ k ih =>
    intro hk hl
    obtain ⟨o, ho⟩ : ∃ o, ops[k]? = some o := ⟨ops[k], Array.getElem?_eq_getElem hk⟩
    obtain ⟨_, h2, _⟩ := relB2_op hB ho
    by_cases hall : ∀ e ∈ o.after, Region.binds md e = true → listed.getD e.on false = true
    · exact ⟨k, mem_ready.2 ⟨hl, o, ho, hall⟩⟩
    · obtain ⟨e, hne⟩ := Classical.not_forall.1 hall
      obtain ⟨he, hne⟩ := Classical.not_imp.1 hne
      obtain ⟨hb, hne⟩ := Classical.not_imp.1 hne
      have hlt := h2 e he hb
      refine ih e.on hlt (by omega) ?_
      have hsz : e.on < listed.size := by omega
      simp [hsz] at hne ⊢
      exact hne
theorem readyT {listed : Array Bool} (h : ∀ j, j < ops.size → listed.getD j true = true) : Region.ready md ops listed = [] := by
  cases hrd : Region.ready md ops listed with
  | nil => rfl
  | cons k l =>
    obtain ⟨h1, ok, hok, _⟩ := mem_ready.1 (show k ∈ Region.ready md ops listed by rw [hrd]; exact List.mem_cons_self)
    rw [h k (Array.getElem?_eq_some_iff.1 hok).1] at h1
    cases h1
theorem wpAny_done {fuel : Nat} {listed : Array Bool} {a : Act} {w : World} (h : ∀ j, j < ops.size → listed.getD j true = true) (hq : Q .normal a w) : wpAny P md ops Q fuel listed a w := by
  cases fuel with
  | zero => exact ⟨readyT h, hq⟩
  | succ f => exact ⟨fun _ => hq, by rw [readyT h]; intro j hj; cases hj⟩
theorem setT {listed : Array Bool} {i : Nat} (hl : listed.size = ops.size) (hi : i < ops.size) {p : Nat → Prop} (h : ∀ j, j < ops.size → j ≠ i → ¬ p j → listed.getD j true = true) : ∀ j, j < ops.size → ¬ p j → (listed.setIfInBounds i true).getD j true = true := fun j hj hp => by
  by_cases e : j = i
  · subst e
    have h2 : j < listed.size := by omega
    simp [h2]
  · rw [getD_set_ne true (Ne.symm e)]
    exact h j hj e hp
theorem wpAny_one {n s1 s2 x : Nat} (hB : relB2 md ops n s1 s2 x = true) {fuel : Nat} {listed : Array Bool} {a : Act} {w : World} {i : Nat} {o : Oper} (hl : listed.size = ops.size) (ho : ops[i]? = some o) (h : ∀ j, j < ops.size → j ≠ i → listed.getD j true = true) (hi : listed.getD i true = false)
    (hq : Oper.wp P o a w (Q .normal) Q) (hf : 1 ≤ fuel) : wpAny P md ops Q fuel listed a w := by
  cases fuel with
  | zero => omega
  | succ f =>
    have hlt : i < ops.size := (Array.getElem?_eq_some_iff.1 ho).1
    refine ⟨fun hr => ?_, fun k hk => ?_⟩
    · obtain ⟨k, hk⟩ := ready2 hB hl i hlt hi
      rw [hr] at hk
      cases hk
    · obtain ⟨h1, ok, hok, _⟩ := mem_ready.1 hk
      have hkl : k < ops.size := (Array.getElem?_eq_some_iff.1 hok).1
      have e : k = i := by
        by_cases e : k = i
        · exact e
        · rw [h k hkl e] at h1; cases h1
      subst e
      have hw : Region.wanted o (yielded ops a.tmps) = true := by simp [Region.wanted, (relB2_op hB ho).1]
      unfold wpOp
      simp only [ho, hw, if_true]
      exact .inl (Oper.wp_mono (fun a' w' hq => wpAny_done (fun j hj => setT (p := fun _ => False) hl hlt (fun j hj hji _ => h j hj hji) j hj id) hq) hq)
structure Twin (P : Program) (ops : Array Oper) (R : Nat → Value → World → Prop) (s1 s2 x p1 p2 : Nat) (d1 d2 : Tmp) : Prop where
  dst : ∀ i o, ops[i]? = some o → (i = p1 → o.dst = some d1) ∧ (i = p2 → o.dst = some d2)
  lt : p1 < ops.size ∧ p2 < ops.size ∧ p1 ≠ p2 ∧ p1 ≠ s1 ∧ p1 ≠ s2 ∧ p1 ≠ x ∧ p2 ≠ s1 ∧ p2 ≠ s2 ∧ p2 ≠ x
  old : ∀ i v w, i = p1 ∨ i = p2 → R i v w → ∃ b, v = .pointer (some ⟨b, 0, none⟩) ∧ b < w.heap.size
  new : ∀ i o ev w, ops[i]? = some o → i = p1 ∨ i = p2 → ∃ w', (execOp ev o).run P w = .ok (.value (.pointer (some ⟨w.heap.size, 0, none⟩))) w'
theorem wpAny_rel2 {n s1 s2 x p1 p2 : Nat} {d1 d2 : Tmp} {R : Nat → Value → World → Prop} {S : World → Prop} {a0 : Act} {w0 : World} (hn : a0.tmps.size = n) (hB : relB2 md ops n s1 s2 x = true)
    (hR : ∀ i v w w', R i v w → Up w w' → R i v w') (hS : ∀ w w', S w → Up w w' → S w') (hT : Twin P ops R s1 s2 x p1 p2 d1 d2)
    (hop : ∀ i o, ops[i]? = some o → i ≠ s1 → i ≠ s2 → ∀ ev w, S w → RelEv ops md R a0 o ev w → LeavesR P (R i) w ((execOp ev o).run P w))
    (hfin : ∀ a w, a.tmps.size = a0.tmps.size → a.defers = a0.defers → (∀ s, (∀ o' ∈ ops, o'.dst ≠ some s) → a.tmps[s]? = a0.tmps[s]?) → (∀ i o d, ops[i]? = some o → i ≠ s1 → i ≠ s2 → i ≠ x → o.dst = some d → R i (a.tmps.getD d undef) w) → a.tmps.getD d1 undef ≠ a.tmps.getD d2 undef → S w → Up w0 w →
      ∀ o1 o2 ox, ops[s1]? = some o1 → ops[s2]? = some o2 → ops[x]? = some ox →
        ((∀ d, ox.dst = some d → R x (a.tmps.getD d undef) w) → Oper.wp P o1 a w (fun a1 w1 => Oper.wp P o2 a1 w1 (Q .normal) Q) Q) ∧ Oper.wp P o1 a w (fun a1 w1 => Oper.wp P ox a1 w1 (fun a2 w2 => Oper.wp P o2 a2 w2 (Q .normal) Q) Q) Q) :
    ∀ (fuel : Nat) (listed : Array Bool) (a : Act) (w : World), leftU ops.size listed ≤ fuel → closedU md ops listed → listed.getD s1 true = false → listed.getD s2 true = false → RelInv ops R a0 listed a w → (listed.getD p1 true = true → listed.getD p2 true = true → a.tmps.getD d1 undef ≠ a.tmps.getD d2 undef) → S w → Up w0 w → wpAny P md ops Q fuel listed a w := by
  obtain ⟨tp1, tp2, tpp, t1a, t1b, t1c, t2a, t2b, t2c⟩ := hT.lt
  obtain ⟨hx1, h12, h2s⟩ := relB2_is hB
  obtain ⟨o1, ho1⟩ : ∃ o, ops[s1]? = some o := ⟨ops[s1], Array.getElem?_eq_getElem (by omega)⟩
  obtain ⟨o2, ho2⟩ : ∃ o, ops[s2]? = some o := ⟨ops[s2], Array.getElem?_eq_getElem (by omega)⟩
  obtain ⟨ox, hox⟩ : ∃ o, ops[x]? = some o := ⟨ops[x], Array.getElem?_eq_getElem (by omega)⟩
  intro fuel
  induction fuel with
  | zero =>
    intro listed a w hf hcl hs1 hs2 hI hJ hSw hu
    have := leftU_zero (listed := listed) (n := ops.size) (by omega) (j := s2) (by omega)
    rw [this] at hs2; cases hs2
  | succ fuel ih =>
    intro listed a w hf hcl hs1 hs2 hI hJ hSw hu
    refine ⟨fun hr => ?_, fun i hi => ?_⟩
    · obtain ⟨k, hk⟩ := ready2 hB hI.lsize s2 (by omega) hs2
      rw [hr] at hk
      cases hk
    · obtain ⟨hun, o, ho, hall⟩ := mem_ready.1 hi
      have hlt : i < ops.size := (Array.getElem?_eq_some_iff.1 ho).1
      obtain ⟨hg, _, hdn, hds⟩ := relB2_op hB ho
      have hw : Region.wanted o (yielded ops a.tmps) = true := by simp [Region.wanted, hg]
      have hwt : ∀ j, j < ops.size → waitsU md ops j ops.size i = true → listed.getD j true = true := fun j hj hwj => by
        have h1 := waitsU_spec hcl ops.size i o ho hall hwj
        have h2 : j < listed.size := by rw [hI.lsize]; exact hj
        simp [h2] at h1 ⊢
        exact h1
      have hdone : ∀ j oj d, ops[j]? = some oj → listed.getD j true = true → oj.dst = some d → R j (a.tmps.getD d undef) w := fun j oj d hoj hl hd => by
        refine hI.done j oj d hoj ?_ hd
        have h2 : j < listed.size := by rw [hI.lsize]; exact (Array.getElem?_eq_some_iff.1 hoj).1
        simp [h2] at hl ⊢
        exact hl
      unfold wpOp
      simp only [ho, hw, if_true]
      refine .inl ?_
      by_cases hi2 : i = s2
      · subst hi2
        have := hwt s1 (by omega) (relB2_s2 hB (by omega) (by omega))
        rw [this] at hs1; cases hs1
      · by_cases hi1 : i = s1
        · subst hi1
          rw [ho1] at ho
          obtain rfl := Option.some.inj ho
          have hz : ∀ j, j < ops.size → j ≠ i → j ≠ s2 → j ≠ x → listed.getD j true = true := fun j hj a1 a2 a3 => hwt j hj (relB2_s1 hB hj a1 a2 a3)
          have hF := hfin a w hI.size hI.defers hI.other (fun k ok d hok k1 k2 k3 hd => hdone k ok d hok (hz k (Array.getElem?_eq_some_iff.1 hok).1 k1 k2 k3) hd) (hJ (hz p1 tp1 t1a t1b t1c) (hz p2 tp2 t2a t2b t2c)) hSw hu o1 o2 ox ho1 ho2 hox
          have hlf := leftU_set (n := ops.size) (listed := listed) hlt hun
          have hl1 : (listed.setIfInBounds i true).size = ops.size := by simp [hI.lsize]
          have hs21 : (listed.setIfInBounds i true).getD s2 true = false := by rw [getD_set_ne true hi2]; exact hs2
          have hl2 := leftU_set (n := ops.size) (i := s2) (listed := listed.setIfInBounds i true) (by omega) hs21
          cases hlx : listed.getD x true with
          | true =>
            refine Oper.wp_mono (fun a1 w1 hq => ?_) (hF.1 fun d hd => hdone x ox d hox hlx hd)
            refine wpAny_one hB hl1 ho2 (fun j hj hne => setT (p := fun j => j = s2) hI.lsize hlt (fun j hj a1 a2 => ?_) j hj hne) hs21 hq (by omega)
            by_cases e : j = x
            · rw [e]; exact hlx
            · exact hz j hj a1 a2 e
          | false =>
            refine Oper.wp_mono (fun a1 w1 hq => ?_) hF.2
            have hsx : (listed.setIfInBounds i true).getD x true = false := by rw [getD_set_ne true (by omega)]; exact hlx
            obtain ⟨f, rfl⟩ : ∃ f, fuel = f + 1 := ⟨fuel - 1, by omega⟩
            have hcl1 := closedU_set hcl hi
            refine ⟨fun hr => ?_, fun k hk => ?_⟩
            · obtain ⟨k, hk⟩ := ready2 hB hl1 s2 (by omega) hs21
              rw [hr] at hk
              cases hk
            · obtain ⟨hkn, ok, hok, hallk⟩ := mem_ready.1 hk
              have hkl : k < ops.size := (Array.getElem?_eq_some_iff.1 hok).1
              have hk2 : k ≠ s2 := by
                rintro rfl
                have h1 := waitsU_spec hcl1 ops.size k ok hok hallk (relB2_s2 hB (j := x) (by omega) (by omega))
                rw [getD_set_ne false (show i ≠ x by omega)] at h1
                have h2 : x < listed.size := by rw [hI.lsize]; omega
                simp [h2] at h1 hlx
                rw [h1] at hlx; cases hlx
              have hki : k ≠ i := by
                rintro rfl
                have h2 : k < listed.size := by rw [hI.lsize]; exact hkl
                simp [h2] at hkn
              have hkx : k = x := by
                by_cases e : k = x
                · exact e
                · rw [getD_set_ne true (Ne.symm hki), hz k hkl hki hk2 e] at hkn; cases hkn
              subst hkx
              rw [hox] at hok
              obtain rfl := Option.some.inj hok
              have hwx : Region.wanted ox (yielded ops a1.tmps) = true := by simp [Region.wanted, (relB2_op hB hox).1]
              unfold wpOp
              simp only [hox, hwx, if_true]
              refine .inl (Oper.wp_mono (fun a2 w2 hq2 => ?_) hq)
              have hl3 := leftU_set (n := ops.size) (i := k) (listed := listed.setIfInBounds i true) (by omega) hsx
              have hs22 : ((listed.setIfInBounds i true).setIfInBounds k true).getD s2 true = false := by rw [getD_set_ne true hk2]; exact hs21
              have hl4 := leftU_set (n := ops.size) (i := s2) (listed := (listed.setIfInBounds i true).setIfInBounds k true) (by omega) hs22
              refine wpAny_one hB (by simp [hI.lsize]) ho2 (fun j hj hne => setT (p := fun j => j = s2) hl1 hkl (fun j hj a1 a2 => ?_) j hj hne) hs22 hq2 (by omega)
              exact setT (p := fun j => j = s2 ∨ j = k) hI.lsize hlt (fun j hj b1 b2 => hz j hj b1 (fun e => b2 (.inl e)) (fun e => b2 (.inr e))) j hj (fun e => e.elim a2 a1)
        · obtain ⟨d, hd, hdl, hdd⟩ := hds hi1 hi2
          have hev : RelEv ops md R a0 o a.eval w := by
            refine ⟨fun _ => rfl, fun _ => rfl, fun _ => rfl, fun s hs => ?_, fun j o' d' hj he hd' => ?_⟩
            · show a.tmps.getD s undef = a0.tmps.getD s undef
              rw [Array.getD_eq_getD_getElem?, Array.getD_eq_getD_getElem?, hI.other s hs]
            · obtain ⟨e, he, hb, rfl⟩ := he
              exact hI.done e.on o' d' hj (hall e he hb) hd'
          have h1 := hop i o ho hi1 hi2 a.eval w hSw hev
          have hne : ∀ v q c, q < ops.size → q ≠ i → (∀ oq, ops[q]? = some oq → oq.dst = some c) → (a.put o.dst v).tmps.getD c undef = a.tmps.getD c undef := fun v q c hq hqi hc => by
            have hne : d ≠ c := fun e => hdd q _ (Array.getElem?_eq_getElem hq) hqi (by rw [hc _ (Array.getElem?_eq_getElem hq), e])
            rw [hd, Array.getD_eq_getD_getElem?, Array.getD_eq_getD_getElem?]
            simp [Act.put, hne]
          have hown : ∀ v, (a.put o.dst v).tmps.getD d undef = v := fun v => by
            have hds : d < a.tmps.size := by rw [hI.size, hn]; exact hdl
            rw [hd]
            simp [Act.put, hds]
          have hnext : ∀ v w', R i v w' → Up w w' → (i = p1 ∨ i = p2 → v = .pointer (some ⟨w.heap.size, 0, none⟩)) → wpAny P md ops Q fuel (listed.setIfInBounds i true) (a.put o.dst v) w' := by
            intro v w' hv hu' hvp
            refine ih _ _ _ ?_ (closedU_set hcl hi) ?_ ?_ ?_ ?_ (hS _ _ hSw hu') (hu.trans hu')
            · have := leftU_set (n := ops.size) hlt hun; omega
            · rw [getD_set_ne true hi1]; exact hs1
            · rw [getD_set_ne true hi2]; exact hs2
            · refine ⟨by rw [hd]; exact hI.defers, by rw [hd]; simp [Act.put, hI.size], by simp [hI.lsize], fun s hs => ?_, fun j o' d' hj hl hd' => ?_⟩
              · have hne : d ≠ s := by
                  rintro rfl
                  obtain ⟨hx, hy⟩ := Array.getElem?_eq_some_iff.1 ho
                  exact hs o (by rw [← hy]; exact Array.getElem_mem hx) hd
                rw [← hI.other s hs, hd]
                simp [Act.put, hne]
              · by_cases hji : j = i
                · subst hji
                  rw [ho] at hj
                  obtain rfl := Option.some.inj hj
                  rw [hd] at hd'
                  obtain rfl := Option.some.inj hd'
                  rw [hown]
                  exact hv
                · rw [getD_set_ne false (Ne.symm hji)] at hl
                  rw [hne v j d' (Array.getElem?_eq_some_iff.1 hj).1 hji fun oq hoq => by rw [hj] at hoq; obtain rfl := Option.some.inj hoq; exact hd']
                  exact hR j _ _ _ (hI.done j o' d' hj hl hd') hu'
            · intro l1 l2
              have hold : ∀ q c, q = p1 ∨ q = p2 → q ≠ i → (∀ oq, ops[q]? = some oq → oq.dst = some c) → listed.getD q true = true → ∃ b, (a.put o.dst v).tmps.getD c undef = .pointer (some ⟨b, 0, none⟩) ∧ b < w.heap.size := fun q c hq hqi hc hlq => by
                have hqs : q < ops.size := by rcases hq with rfl | rfl <;> assumption
                rw [hne v q c hqs hqi hc]
                exact hT.old q _ _ hq (hdone q _ c (Array.getElem?_eq_getElem hqs) hlq (hc _ (Array.getElem?_eq_getElem hqs)))
              by_cases e1 : i = p1
              · subst e1
                rw [getD_set_ne true tpp] at l2
                obtain ⟨b, hb, hlb⟩ := hold p2 d2 (.inr rfl) (Ne.symm tpp) (fun oq hoq => (hT.dst p2 oq hoq).2 rfl) l2
                have hdd1 := (hT.dst i o ho).1 rfl
                rw [hd] at hdd1
                obtain rfl := Option.some.inj hdd1
                rw [hb, hown, hvp (.inl rfl)]
                intro e
                injection e with e; injection e with e; injection e with e
                omega
              · by_cases e2 : i = p2
                · subst e2
                  rw [getD_set_ne true (Ne.symm tpp)] at l1
                  obtain ⟨b, hb, hlb⟩ := hold p1 d1 (.inl rfl) tpp (fun oq hoq => (hT.dst p1 oq hoq).1 rfl) l1
                  have hdd2 := (hT.dst i o ho).2 rfl
                  rw [hd] at hdd2
                  obtain rfl := Option.some.inj hdd2
                  rw [hb, hown, hvp (.inr rfl)]
                  intro e
                  injection e with e; injection e with e; injection e with e
                  omega
                · rw [getD_set_ne true e1] at l1
                  rw [getD_set_ne true e2] at l2
                  rw [hne v p1 d1 tp1 (Ne.symm e1) fun oq hoq => (hT.dst p1 oq hoq).1 rfl, hne v p2 d2 tp2 (Ne.symm e2) fun oq hoq => (hT.dst p2 oq hoq).2 rfl]
                  exact hJ l1 l2
          have hnw : i = p1 ∨ i = p2 → ∃ w', (execOp a.eval o).run P w = .ok (.value (.pointer (some ⟨w.heap.size, 0, none⟩))) w' := fun e => hT.new i o a.eval w ho e
          unfold Oper.wp
          generalize (execOp a.eval o).run P w = r at *
          cases r with
          | halt x w' => exact h1.elim
          | ok nx w' =>
            cases nx with
            | value u => exact hnext u w' h1.1 h1.2 fun e => by obtain ⟨w2, h⟩ := hnw e; injection h with h; injection h
            | enter f args =>
              obtain ⟨hu', hc⟩ := h1
              refine Calls.mono hc fun e w'' he => ?_
              obtain ⟨hu2, v, rfl, hv⟩ := he
              exact hnext v w'' hv (hu'.trans hu2) fun e => by obtain ⟨w2, h⟩ := hnw e; injection h with h; cases h
            | _ => exact h1.elim
theorem wp_region_sp2 {id : Nat} {a0 : Act} {w0 : World} {n : Nat} (s1 s2 x p1 p2 : Nat) (d1 d2 : Tmp) (ds : List Tmp) (L : List SP) (S : World → Prop) (hm : P.follows .mixedOrders = true) (hn : a0.tmps.size = n) (hB : relB2 .any ops n s1 s2 x = true)
    (hds : dsB ops ds = true) (hS : ∀ w w', S w → Up w w' → S w') (h0 : S w0) (hT : Twin P ops (nthR L) s1 s2 x p1 p2 d1 d2)
    (hop : ∀ ev w, S w → ∀ i o, i ≠ s1 → i ≠ s2 → ops[i]? = some o → EvR ops L a0 i ev w → LeavesR P (nthR L i) w ((execOp ev o).run P w))
    (hfin : ∀ (g : Tmp → Value) w, (∀ i d, i ≠ s1 → i ≠ s2 → i ≠ x → dstB ops i d = true → nthR L i (g d) w) → g d1 ≠ g d2 → S w → Up w0 w →
      ∀ o1 o2 ox, ops[s1]? = some o1 → ops[s2]? = some o2 → ops[x]? = some ox →
        ((∀ d, ox.dst = some d → nthR L x (g d) w) → Oper.wp P o1 (putL a0 (ds.map fun d => (d, g d))) w (fun a1 w1 => Oper.wp P o2 a1 w1 (Q .normal) Q) Q) ∧
        Oper.wp P o1 (putL a0 (ds.map fun d => (d, g d))) w (fun a1 w1 => Oper.wp P ox a1 w1 (fun a2 w2 => Oper.wp P o2 a2 w2 (Q .normal) Q) Q) Q) :
    (Code.region id ops true).wp P Q a0 w0 := by
  refine wp_region_any hm (wpAny_rel2 (R := nthR L) (S := S) hn hB (fun i v w w' h hu => (L.getD i SP.any).up v w w' h hu) hS hT (fun i o hi h1 h2 ev w hSw hev => ?_) (fun a w hs hd ho hr hJ hSw hu => ?_) _ _ _ _ ?_ ?_ ?_ ?_ ?_ ?_ (hS _ _ h0 (Up.drew w0)) (Up.drew w0))
  · refine hop ev w hSw i o h1 h2 hi ⟨hev.const, hev.func, hev.global, fun s hs => hev.other s fun o' ho' => ?_, fun j d hj => ?_⟩
    · have := Array.all_eq_true_iff_forall_mem.1 hs o' ho'
      simpa using this
    · unfold depB at hj
      rw [hi] at hj
      cases hoj : ops[j]? with
      | none => rw [hoj] at hj; cases hj
      | some o' =>
        rw [hoj] at hj
        simp only [Bool.and_eq_true, Array.any_eq_true', beq_iff_eq] at hj
        obtain ⟨⟨e, he, hb, hon⟩, hd⟩ := hj
        exact hev.dep j o' d hoj ⟨e, he, hb, hon⟩ hd
  · have e := putL_eq (ds := ds) hs hd (fun s hs' => ho s fun o' hm he => hs' (by
      have := Array.all_eq_true_iff_forall_mem.1 hds o' hm
      simpa [he] using this))
    have h := hfin (fun d => a.tmps.getD d undef) w (fun i d h1 h2 h3 hd => by
      unfold dstB at hd
      cases ho : ops[i]? with
      | none => rw [ho] at hd; cases hd
      | some o' =>
        rw [ho] at hd
        exact hr i o' d ho h1 h2 h3 (by simpa using hd)) hJ hSw hu
    rw [← e] at h
    exact h
  · unfold leftU; exact Nat.le_trans (List.length_filter_le _ _) (by simp)
  · intro j oj hj hl
    have : j < ops.size := (Array.getElem?_eq_some_iff.1 hj).1
    simp [this] at hl
  · have := relB2_is hB
    have h : s1 < ops.size := by omega
    simp [h]
  · have := relB2_is hB
    have h : s2 < ops.size := by omega
    simp [h]
  · refine ⟨rfl, rfl, by simp, fun _ _ => rfl, fun i o d ho hl _ => ?_⟩
    have : i < ops.size := (Array.getElem?_eq_some_iff.1 ho).1
    simp [this] at hl
  · intro h1 _
    have := hT.lt.1
    simp [this] at h1
end
def tailV (g n c2 : Nat) : Value := .slice (some ⟨g, if c2 = 0 then 0 else 1, none⟩) n c2
theorem run_tail {ev : Operand → Value} {w : World} {d : Option Tmp} {s : Tmp} {ty : TypeId} {pos : String} {af : Array Edge} {gd : Option (Nat × Bool)} {g n c2 : Nat} (hc : n ≤ c2) (hx : ev (.tmp s) = .slice (some ⟨g, 0, none⟩) (n + 1) (c2 + 1)) (hk : ev (.const (.int .i64 1)) = .int .i64 1) :
    (execOp ev { dst := d, op := .slice 92 (.tmp s) (some (.const (.int .i64 1))) none none, type := ty, pos := pos, after := af, guard := gd }).run Tryz.prog w = .ok (.value (tailV g n c2)) w := by
  unfold tailV
  rcases c2 with _ | c2
  · obtain rfl : n = 0 := by omega
    go_simp
  · go_simp
    intro h
    omega
theorem rv_tail {w : World} {g n c2 : Nat} {C : Array Value} {L : List (List Int)} (hl : L.length = n + 1) (hc : n + 1 ≤ c2 + 1) (hB : Blk w g 38 C) (hE : ∀ i, i < L.length → ∃ s, C[i]? = some s ∧ Wv w s (L.getD i [])) : Rv w (tailV g n c2) (L.drop 1) := by
  unfold tailV
  by_cases h0 : c2 = 0
  · have hn : (L.drop 1) = [] := List.length_eq_zero_iff.1 (by rw [List.length_drop]; omega)
    exact .inl ⟨hn, _, _, by rw [show n = 0 by omega]⟩
  · rw [if_neg h0]
    exact Rz.tail hl hc hB hE
theorem OwnR.mono {w : World} {b b' : Nat} {v : Value} {L : List (List Int)} (h : OwnR w b v L) (hb : b' ≤ b) : OwnR w b' v L := by
  obtain ⟨xs, ⟨h0, h1⟩, h2⟩ := h
  refine ⟨xs, ⟨h0, ?_⟩, fun i hi => by obtain ⟨s, h5, h6⟩ := h2 i hi; exact ⟨s, h5, h6.1, fun a n c e hn => Nat.le_trans hb (h6.2 a n c e hn)⟩⟩
  rcases h1 with h1 | ⟨g', cap, cur, hv, hbb, hr⟩
  · exact .inl h1
  · exact .inr ⟨g', cap, cur, hv, Nat.le_trans hb hbb, hr⟩
theorem OwnR.grown {w w' : World} {b : Nat} {row : Option Nat} {v : Value} {L : List (List Int)} (h : OwnR w b v L) (hg : w.grownBy w' row) (hr : ∀ k, row = some k → k < b) : OwnR w' b v L := by
  have hk : ∀ {g : Nat} {t : TypeId} {C : Array Value}, Blk w g t C → b ≤ g → Blk w' g t C := fun {g t C} hB hb => by
    unfold Blk
    rw [hg.block g hB.lt (fun e => by have := hr g e.symm; omega)]
    exact hB
  obtain ⟨xs, ⟨h0, h1⟩, h2⟩ := h
  refine ⟨xs, ⟨h0, ?_⟩, fun i hi => ?_⟩
  · rcases h1 with h1 | ⟨g', cap, cur, hv, hbb, hB, hr⟩
    · exact .inl h1
    · exact .inr ⟨g', cap, cur, hv, hbb, hk hB hbb, hr⟩
  · obtain ⟨s, h5, h6, h7⟩ := h2 i hi
    refine ⟨s, h5, ?_, h7⟩
    rcases h6 with h6 | ⟨g', cap, C, hv, hc, hB, ht⟩
    · exact .inl h6
    · rcases Nat.eq_zero_or_pos (L.getD i []).length with h00 | h00
      · exact .inl ⟨List.length_eq_zero_iff.1 h00, _, _, by rw [hv, h00]⟩
      · exact .inr ⟨g', cap, C, hv, hc, hk hB (h7 _ _ _ hv h00), ht⟩
theorem OwnR.open {w : World} {b : Nat} {v : Value} {L : List (List Int)} (h : OwnR w b v L) (h0 : 0 < L.length) :
    ∃ g cap C, v = .slice (some ⟨g, 0, none⟩) L.length cap ∧ b ≤ g ∧ L.length ≤ cap ∧ Blk w g 38 C ∧ ∀ i, i < L.length → ∃ s, C[i]? = some s ∧ Wb w b s (L.getD i []) := by
  obtain ⟨xs, ⟨_, h1 | ⟨g, cap, cur, hv, hbb, hB, hc, _, _, ht⟩⟩, h2⟩ := h
  · omega
  · refine ⟨g, cap, cur, hv, hbb, hc, hB, fun i hi => ?_⟩
    obtain ⟨s, h3, h4⟩ := h2 i hi
    rw [← ht, List.getElem?_take_of_lt (by omega), Array.getElem?_toList] at h3
    exact ⟨s, h3, h4⟩
theorem OwnR.tail {w : World} {b g s c2 : Nat} {L : List (List Int)} (h : OwnR w b (.slice (some ⟨g, 0, none⟩) (s + 1) (c2 + 1)) L) (hl : L.length = s + 1) : Rv w (tailV g s c2) (L.drop 1) := by
  obtain ⟨g', cap, C, hv, _, hc, hB, hE⟩ := h.open (by omega)
  injection hv with e1 e2 e3
  injection e1 with e1
  injection e1 with e1
  subst e1 e3
  exact rv_tail hl (by omega) hB fun i hi => by obtain ⟨s, h1, h2⟩ := hE i hi; exact ⟨s, h1, h2.1⟩
theorem ewrong_any (n : Int) (h0 : n ≠ 0) (w : World) :
    Calls Tryz.prog 42 #[.int .i64 n] w fun r w' => ∃ u, r = .returned u ∧ Up w w' ∧ ErrsE w' u n := by
  have HW := hid (fun w => wrap_any (op := { data := #[101, 108, 105, 109] }) (v := .iface 90 (.int .i64 n)) (e := .num n) (w := w) rfl)
  go_enter Tryz.func42, Tryz.ntmps42
  go_wp2_with (first | (go_at_call 77; (with_reducible refine (HW.out _).mono ?_); rintro r w1 ⟨u1, rfl, hu1, h1⟩))
  go_ret
  obtain ⟨t, u, rfl⟩ := h1.iface
  exact ⟨_, rfl, hu1, .inr ⟨h0, t, u, rfl, h1⟩⟩
theorem Blk.below {a b : World} {g B : Nat} {t : TypeId} {C : Array Value} (hB : Blk a g t C) (h : Below B a b) (hg : g < B) : Blk b g t C := by
  unfold Blk
  rw [h.block g hg]
  exact hB
theorem Blk.grown {w w' : World} {g : Nat} {row : Option Nat} {t : TypeId} {C : Array Value} (hB : Blk w g t C) (hg : w.grownBy w' row) (hr : row ≠ some g) : Blk w' g t C := by
  unfold Blk
  rw [hg.block g hB.lt (fun e => hr e.symm)]
  exact hB
theorem wpL_folded {P : Program} {ops : Array Oper} {rest : List Oper} {Q : Exit → Act → World → Prop} {a : Act} {w : World} (R : World → Prop) (h : R w) (k : ∀ w', R w' → wpList P ops Q rest a w') : wpList P ops Q rest a w := k w h
set_option maxHeartbeats 8000000 in
theorem minors_any {v : Value} {N : Int} {l : List Int} {w : World} (hm : Sm w v N l) :
    Calls Tryz.prog 11 #[v] w fun r w' => ∃ z u, r = .returned (.tuple #[z, u]) ∧ Up w w' ∧ Wv w' z (mnR N l) ∧ ErrsE w' u (mnC N l) := by
  have HR := hid (fun w' (hu : Up w w') => sright_any (hm.up hu))
  have HWR := hid (fun w => ewrong_any 23 (by decide) w)
  have HSm := hid hm
  obtain ⟨s, rfl, ⟨p, cap, rfl, -, -⟩, -, -, -⟩ := hm
  obtain ⟨W0, hW0⟩ : ∃ W0, w.alloc (.cells #[.int .i64 N, .slice p l.length cap] 24) = W0 := ⟨_, rfl⟩
  have hB : Blk W0 w.heap.size 24 #[.int .i64 N, .slice p l.length cap] := by rw [← hW0]; exact Blk.new _ _ rfl
  have hU : Up w W0 := by rw [← hW0]; exact Up.alloc _ _
  cases hR : rt N l with
  | false =>
    have e : mnC N l = 23 := by unfold mnC; rw [hR]; rfl
    have e2 : mnR N l = [] := by unfold mnR; rw [hR]; rfl
    rw [e, e2]
    rw [hR] at HR
    clear e e2 hR
    go_enter Tryz.func11, Tryz.ntmps11
    go_wp2_with (first
      | ((with_reducible apply ldM_P); exact rfl; exact rfl; exact hB; exact rfl)
      | (go_at_call 41; (with_reducible refine (HR.out _ hU).mono ?_); rintro r w1 ⟨rfl, hu1⟩)
      | (go_at_call 42; (with_reducible refine (HWR.out _).mono ?_); rintro r w2 ⟨u2, rfl, hu2, h2⟩))
    go_ret2
    exact ⟨_, _, rfl, (hU.trans hu1).trans hu2, .inl ⟨rfl, none, 0, rfl⟩, h2⟩
  | true =>
    rw [hR] at HR
    obtain ⟨n0, n8, _, _⟩ := rt_spec hR
    obtain ⟨n, rfl⟩ : ∃ n : Nat, N = (n : Int) := ⟨N.toNat, by omega⟩
    have e : mnC n l = 0 := by unfold mnC; rw [hR]; rfl
    have e2 : mnR n l = mins n 1 (AM n l) := by unfold mnR; rw [hR, if_pos rfl]; rfl
    rw [e, e2]
    have HSQ := hid (fun w' (hu : Up w w') => square_any (HSm.out.up hu) hR)
    have HSt := hid (St.start hR)
    have HMt := hid (Mat.start n l)
    have HO1 := hid (fun w => of_any 1 (by decide) (by decide) w)
    have hn8 : n ≤ 8 := by omega
    obtain ⟨T, hT⟩ : ∃ T, mins n 1 (AM n l) = T := ⟨_, rfl⟩
    rw [hT]
    clear e e2 hR n0 n8
    unfold wideV at *
    go_enter Tryz.func11, Tryz.ntmps11
    go_wp2_with (first
      | ((with_reducible apply ldM_P); exact rfl; exact rfl; (first | exact hB | exact hB3); exact rfl)
      | (go_at_call 41; (with_reducible refine (HR.out _ hU).mono ?_); rintro r w1 ⟨rfl, hu1⟩; replace hB := hB.up hu1; replace hU := hU.trans hu1)
      | (go_at_call 43; (with_reducible refine (HO1.out _).mono ?_); rintro r w2 ⟨rfl, hu2⟩; have hsz1 := hU.size; have hsz2 := hu2.size)
      | ((with_reducible apply st_rowP infoW); exact rfl; exact rfl; exact row_newz _ rfl
         refine wpL_folded (fun wd => Up w2 wd ∧ Row wd w2.heap.size 33 16 (limb (enc 1))) ⟨gUp, gRow⟩ ?_
         rintro wL ⟨hXL, hLast⟩
         have hU2 := (hU.trans hu2).trans hXL
         have hB3 := (hB.up hu2).up hXL)
      | (go_at_call 44; (with_reducible refine (HSQ.out _ hU2).mono ?_); rintro r w3 ⟨z3, rfl, hu3, b3, hb3, hO3⟩; have hLast3 := hLast.up hu3; have hU3 := hU2.trans hu3; have hlt2 := hLast.lt))
    have hO3b := hO3.mono (show w2.heap.size + 1 ≤ b3 by omega)
    obtain ⟨pz, cz, rfl⟩ := hO3.slice
    obtain ⟨bL, hbL⟩ : ∃ y, w2.heap.size = y := ⟨_, rfl⟩
    rw [hbL] at hLast3 hO3b hlt2 ⊢
    have hwbL : w.heap.size ≤ bL := by omega
    have hInv : ∃ (k s : Nat) (q : Int) (M : Nat → Nat → Int) (L : List (List Int)) (done : List Int) (bR : Nat), s + k = n ∧ Mat s L M ∧ St q k M ∧ done ++ mins s q M = T ∧ OwnR w3 bR (.slice pz (sqE n l).length cz) L ∧ bL < bR ∧
        OwnW w3 (bL + 1) (.slice none 0 0) done ∧ (∀ g, (Value.slice none 0 0).ownBlock = some g → g < bR) ∧ Row w3 bL 33 16 (limb (enc q)) ∧ Up w w3 ∧ done.length + s ≤ 8 :=
      ⟨0, n, 1, AM n l, sqE n l, [], b3, by omega, HMt.out, HSt.out, hT, hO3, by omega, OwnW.nil _ _, fun g h => by simp [Value.ownBlock] at h, hLast3, hU3, by simp; omega⟩
    clear hO3 hO3b hLast3 hlt2 hb3 hu3 hU3 hU2 hB hB3 hU hu2 hu1 hXL hLast hW0 HSt HMt hT hbL hsz1 hsz2 HSQ HO1 HR HWR
    go_loopg [4, 6] (n + 1) (fun g tm tr wr => ∃ (k s : Nat) (q : Int) (M : Nat → Nat → Int) (L : List (List Int)) (done : List Int) (bR : Nat), s ≤ g ∧ s + k = n ∧ Mat s L M ∧ St q k M ∧ done ++ mins s q M = T ∧ OwnR wr bR tr L ∧ bL < bR ∧
        OwnW wr (bL + 1) tm done ∧ (∀ g, tm.ownBlock = some g → g < bR) ∧ Row wr bL 33 16 (limb (enc q)) ∧ Up w wr ∧ done.length + s ≤ 8)
    case atStart =>
      obtain ⟨k, s, q, M, L, done, bR, h1, h2⟩ := hInv
      exact ⟨k, s, q, M, L, done, bR, by omega, h1, h2⟩
    case round =>
      clear hInv
      obtain ⟨k, s, q, M, L, done, bR, hsg, hsk, hMat, hSt, hDone, hO, hbR, hOW, hob, hRow, hu, hdl⟩ := hrel
      obtain ⟨pm, cm, rfl⟩ := hOW.slice
      obtain ⟨pr, cr, rfl⟩ := hO.slice
      rw [hMat.1]
      rcases s with _ | s
      · have hDn : done = T := by rw [← hDone]; simp [mins]
        subst hDn
        clear hDone
        go_wp2_with fail
        go_ret2
        exact ⟨_, _, rfl, hu, hOW.wv, .inl ⟨rfl, rfl⟩⟩
      · obtain ⟨gR, cR, CR, hv, hgR, hcR, hBR, hE⟩ := hO.open (by rw [hMat.1]; omega)
        injection hv with x1 x2 x3
        subst x1 x3
        rw [hMat.1] at hcR
        obtain ⟨sF, hsF, hWF, hWFb⟩ := hE 0 (by rw [hMat.1]; omega)
        obtain ⟨hLF, hLFe⟩ := hMat.2 0 (by omega)
        obtain ⟨gF, cF, CF, hvF, hcF, hBF, htF⟩ := hWF.open (by rw [hLF]; omega)
        have HWv := hid (fun w' (hB : Blk w' gF 33 CF) => show Wv w' (.slice (some ⟨gF, 0, none⟩) (s + 1) cF) (L.getD 0 []) from .inr ⟨gF, cF, CF, by rw [hLF], hcF, hB, htF⟩)
        subst hvF
        have hgF : bR ≤ gF := hWFb _ _ _ rfl (by rw [hLF]; omega)
        rw [hLF] at hsF
        have hF00 : zth (L.getD 0 []) 0 = M 0 0 := hLFe 0 (by omega)
        have hRng : ∀ w', Blk w' gF 33 CF → w'.rangeAt gF 0 (wc (M 0 0)) := fun w' hB => by
          have h := wv_range hB htF (i := 0) (by rw [hLF]; omega)
          rw [hF00, Nat.zero_mul] at h
          exact h
        have HRng := hid hRng
        have hcx := hBR.cell 0 hsF
        have hk7 : k ≤ 7 := by omega
        have HSg := hid (fun w => sign_z (few_inR (k := 5) (by omega) (hSt.entry hk7 0 0)) w)
        unfold wideV at HSg
        have hlt := hRow.lt
        have hne : (Value.slice pm done.length cm).ownBlock ≠ some gF := fun e => by have := hob _ e; omega
        have hDl : done.length < 1000000 := by omega
        have HE := hid hE
        have hmn : mins (s + 1) q M = M 0 0 :: (if 0 < M 0 0 then mins s (M 0 0) (nxt q M) else []) := rfl
        rw [hmn] at hDone
        rw [hMat.1] at hO
        obtain ⟨c2, rfl⟩ : ∃ c2, cr = c2 + 1 := ⟨cr - 1, by omega⟩
        clear hmn hRng hF00 htF hLFe hWF hWFb hE x2 hcF
        have HMat := hid hMat
        have HSt := hid hSt
        have HDone := hid hDone
        have hL00 := hLF
        have HOb := hid hob
        have HO := hid hO
        clear hMat hSt hDone hob hO hsF hLF
        obtain ⟨m0, hm0⟩ : ∃ y, M 0 0 = y := ⟨_, rfl⟩
        have HM0 := hid hm0
        rw [hm0] at HRng HSg
        clear hm0
        by_cases hp : 0 < m0
        · have ds : decide (sgn m0 ≤ 0) = false := by unfold sgn; rw [decide_eq_false]; split <;> (try split) <;> omega
          go_wp2_with (first
            | ((with_reducible apply ldW_P); exact rfl; exact rfl; (first | exact HRng.out _ hBF | exact HRng.out _ hBF6))
            | ((with_reducible apply bsW_P); exact rfl)
            | ((with_reducible apply appW (l := done) (m := [m0])); exact rfl; exact rfl; exact OwnW.up (Up.alloc _ _) hOW; exact one_range rfl; (focus (simp; omega)); exact hDl; (focus (simp; done)); rintro v6 w6 hO6 hg6 hb6
               obtain ⟨p6, c6, rfl⟩ := hO6.slice
               have hBF6 := (hBF.up (Up.alloc _ _)).grown hg6 hne
               have hOR6 := (HO.out.up (Up.alloc _ _)).grown hg6 HOb.out
               have hRow6 : Row w6 bL 33 16 (limb (enc q)) := Blk.below (hRow.up (Up.alloc _ _)) hb6 (Nat.lt_succ_self _)
               have hu6 : Up w w6 := Below.trans (hu.trans (Up.alloc _ _)) (Below.mono hb6 (by omega)))
            | (go_at_call 47; (with_reducible refine (HSg.out _).mono ?_); rintro r w7 ⟨rfl, hu7⟩))
          have hF7 := hBF6.up hu7
          have hRow7 := hRow6.up hu7
          have hOR7 := hOR6.up hu7
          have hO7 := hO6.up hu7
          have hU7 := hu6.trans hu7
          obtain ⟨NX, hNX⟩ : ∃ y, ((L.drop 1).map fun R => tk (L.getD 0 []) R q s) = y := ⟨_, rfl⟩
          have HNX := hid hNX
          have HFW : Hid (∀ w', Up w7 w' → Calls Tryz.prog 46 #[.slice (some ⟨gF, 0, none⟩) (s + 1) cF, tailV gR s c2, .agg (cells 16 (limb (enc q)))] w' (fun e w'' => Up w' w'' ∧ ∃ v, e = .returned v ∧ (fun v w'' => ∃ b, w7.heap.size ≤ b ∧ OwnR w'' b v NX) v w'')) := hid (fun w' hu' => by
            have hf := fewer_any (q := q) (n := s) (HWv.out w' (hF7.up hu')) ((hOR7.up hu').tail HMat.out.1) hL00 HMat.out.rest (by omega) (by rw [List.length_drop, HMat.out.1]; omega) (HMat.out.few HSt.out hk7 0) (fun i => by rw [show (L.drop 1).getD i [] = L.getD (i + 1) [] from by rw [List.getD_eq_getElem?_getD, List.getD_eq_getElem?_getD, List.getElem?_drop, Nat.add_comm]]; exact HMat.out.few HSt.out hk7 (i + 1)) HSt.out.2.2 HSt.out.2.1
            unfold wideV at hf
            rw [hNX] at hf
            refine hf.mono fun _ _ h => ?_
            obtain ⟨z, rfl, hu, b, hb, hO⟩ := h
            exact ⟨hu, z, rfl, b, Nat.le_trans hu'.size hb, hO⟩)
          clear hNX
          go_wp2_with fail
          refine opU (S := (fun wq => Up w7 wq ∧ Below w.heap.size w wq)) (req := (fun j => j != 9)) (fun _ _ h hu => ⟨(h.1).trans hu, below_up (h.2) hu⟩) ⟨(by first | exact Up.refl _ | assumption), gUp⟩ (fun wS hSS hSu => ?_)
          have ⟨hS1, hSB⟩ := hSS
          refine tkP 0 (some 32) hSu ?_
          refine tkP 1 (some 33) hSu ?_
          refine tkO 2 (some 34) rfl hSu ?_ (hy := fun w' => run_tail (by omega) rfl rfl)
          refine tkT 3 (some 35) rfl hSu hSS ?_ (hy := fun w' hSw => run_ld undW infoW _ rfl _ rfl (hRow7.up hSw.1))
          refine tkP 5 (some 37) hSu ?_
          refine tkP 6 (some 38) hSu ?_
          refine tkT 7 (some 39) rfl hSu hSS ?_ (hy := fun w' hSw => run_ldW rfl rfl (HRng.out _ (hF7.up hSw.1)))
          refine wpAnyU_callE (i := 4) (d := (some 36)) rfl rfl (by kernel_rfl) (by rfl) hSu.out (fun w' => by go_simp) (fun w' hw' => (HFW.out w' (hS1.trans hw'))) fun vG wG hwG hRG => ?_
          try simp only [Act.put, pu1, pu2, pu3]
          obtain ⟨bN, hbN, hON⟩ := hRG
          obtain ⟨pN, cN, rfl⟩ := hON.slice
          refine tkP 8 (some 6) hSu ?_
          refine wpAnyU_one (i := 9) rfl (by kernel_rfl) (by rfl) fun wX hwX => ?_
          refine wp_st_rowN infoW rfl _ _ rfl _ rfl rfl ((hRow7.up ((hS1.trans hwG).trans hwX))) ?_
          refine ⟨fun h => by simp at h, ?_⟩
          try simp only [Act.put, pu1, pu2, pu3]
          refine wpAnyU_done (by kernel_rfl) (fun wF huE => ?_) _
          have hUG := (hS1.trans hwG).trans hwX
          have hltb := hRow7.lt
          have gRow := ((hRow7.up hUG).setRow (limb (enc m0))).up huE
          have gO := ((hON.up hwX).below (show bL < bN by omega) (cells 16 (limb (enc m0)))).up huE
          have gW := ((hO7.up hUG).below (Nat.lt_succ_self bL) (cells 16 (limb (enc m0)))).up huE
          have gU := Up.trans (below_setRow (hU7.trans hUG) hwbL (cells 16 (limb (enc m0)))) huE
          have gOb : ∀ g, (Value.slice p6 (done ++ [m0]).length c6).ownBlock = some g → g < bN := fun g h => by have := (World.ownsRow.lt hO7 g h).2; omega
          have gT : (done ++ [m0]) ++ mins s m0 (nxt q M) = T := by
            have h := HDone.out
            rw [HM0.out, if_pos hp] at h
            rw [List.append_assoc]
            exact h
          have gM : Mat s NX (nxt q M) := HNX.out ▸ HMat.out.next
          have gS : St m0 (k + 1) (nxt q M) := by
            have h := HSt.out.next hk7 (by rw [HM0.out]; omega)
            rw [HM0.out] at h
            exact h
          have gL : (done ++ [m0]).length = done.length + 1 := by rw [List.length_append, List.length_singleton]
          rw [gL] at gW gOb
          clear hS1 hSB hSS hwG hwX huE hON hUG
          go_wp2_with fail
          go_roundg s
          case measure => omega
          case rel => exact ⟨k + 1, s, m0, nxt q M, NX, done ++ [m0], bN, Nat.le_refl _, by omega, gM, gS, gT, gO, by omega, gW, gOb, gRow, gU, by rw [gL]; omega⟩
        · have ds : decide (sgn m0 ≤ 0) = true := by unfold sgn; rw [decide_eq_true]; split <;> (try split) <;> omega
          go_wp2_with (first
            | ((with_reducible apply ldW_P); exact rfl; exact rfl; (first | exact HRng.out _ hBF | exact HRng.out _ hBF6))
            | ((with_reducible apply bsW_P); exact rfl)
            | ((with_reducible apply appW (l := done) (m := [m0])); exact rfl; exact rfl; exact OwnW.up (Up.alloc _ _) hOW; exact one_range rfl; (focus (simp; omega)); exact hDl; (focus (simp; done)); rintro v6 w6 hO6 hg6 hb6
               obtain ⟨p6, c6, rfl⟩ := hO6.slice
               have hBF6 := (hBF.up (Up.alloc _ _)).grown hg6 hne
               have hu6 : Up w w6 := Below.trans (hu.trans (Up.alloc _ _)) (Below.mono hb6 (by omega)))
            | (go_at_call 47; (with_reducible refine (HSg.out _).mono ?_); rintro r w7 ⟨rfl, hu7⟩))
          go_ret2
          have hT : done ++ [m0] = T := by
            have h := HDone.out
            rw [HM0.out, if_neg (by omega)] at h
            exact h
          have hW := (hO6.up hu7).wv
          rw [List.length_append, List.length_singleton, hT] at hW
          exact ⟨_, _, rfl, hu6.trans hu7, hW, .inl ⟨rfl, rfl⟩⟩
theorem blkM_cell {w : World} {g i : Nat} {C : Array Value} {v : Value} (hB : Blk w g 49 C) (h : C[i]? = some v) : w.cell? ⟨g, i, none⟩ = some v := hB.cell i h
theorem wp_val {P : Program} {o : Oper} {a : Act} {w : World} {v : Value} {K : Act → World → Prop} {Q : Exit → Act → World → Prop} (h : (execOp a.eval o).run P w = .ok (.value v) w) (hK : K (a.put o.dst v) w) : Oper.wp P o a w K Q := by
  unfold Oper.wp
  rw [h]
  exact hK
set_option maxHeartbeats 16000000 in
theorem rstep_any {w : World} {base n m k i j B : Nat} {av pv : Value} {G : Nat → Nat} {V : Nat → Nat → Int} {q : Int} (h : OwnM w base av n m G V) (hp : Big w pv q) (hk : k < n) (hi : i < n) (hkm : k < m) (hj : j < m) (hn : n ≤ 8) (_ : m ≤ 9) (hB : B ≤ 100)
    (hq : q ≠ 0) (bq : q.natAbs < bp B) (b1 : (V k k).natAbs < bp B) (b2 : (V i j).natAbs < bp B) (b3 : (V i k).natAbs < bp B) (b4 : (V k j).natAbs < bp B) :
    Calls Tryz.prog 54 #[av, .int .i64 (k : Nat), .int .i64 (i : Nat), .int .i64 (j : Nat), pv] w fun r w' => Up w w' ∧ ∃ v, r = .returned v ∧ Big w' v ((V k k * V i j - V i k * V k j).tdiv q) := by
  obtain ⟨g, cap, C, rfl, -, -, hBg, hE⟩ := h.open (by omega)
  obtain ⟨ck, hCk⟩ := hE k hk
  obtain ⟨ci, hCi⟩ := hE i hi
  obtain ⟨Ck, bkk, akk, nkk, ckk, hBk, hsk, h1, h2, hkk⟩ := h.entry hk hkm
  obtain ⟨Ck', bkj, akj, nkj, ckj, hBk', -, h3, h4, hkj⟩ := h.entry hk hj
  obtain ⟨Ci, bij, aij, nij, cij, hBi, -, h5, h6, hij⟩ := h.entry hi hj
  obtain ⟨Ci', bik, aik, nik, cik, hBi', -, h7, h8, hik⟩ := h.entry hi hkm
  have e1 : Ck' = Ck := by unfold Blk at hBk hBk'; rw [hBk] at hBk'; simp at hBk'; exact hBk'.symm
  have e2 : Ci' = Ci := by unfold Blk at hBi hBi'; rw [hBi] at hBi'; simp at hBi'; exact hBi'.symm
  subst e1 e2
  obtain ⟨pb, pa, pn, pc, rfl⟩ := hp.shape
  have HCk := hid (fun w' (hB : Blk w' g 49 C) => blkM_cell hB hCk)
  have HCi := hid (fun w' (hB : Blk w' g 49 C) => blkM_cell hB hCi)
  have Hkk := hid (fun w' (hB : Blk w' (G k) 46 Ck') => bigAt_range hB h1 h2)
  have Hkj := hid (fun w' (hB : Blk w' (G k) 46 Ck') => bigAt_range hB h3 h4)
  have Hij := hid (fun w' (hB : Blk w' (G i) 46 Ci') => bigAt_range hB h5 h6)
  have Hik := hid (fun w' (hB : Blk w' (G i) 46 Ci') => bigAt_range hB h7 h8)
  have p1 : (V k k * V i j).natAbs < bp (B + B) := by rw [Int.natAbs_mul, bp_add]; exact Nat.mul_lt_mul_of_lt_of_lt b1 b2
  have p2 : (V i k * V k j).natAbs < bp (B + B) := by rw [Int.natAbs_mul, bp_add]; exact Nat.mul_lt_mul_of_lt_of_lt b3 b4
  have p3 : (V k k * V i j - V i k * V k j).natAbs < bp (B + B + 1) := by have e : bp (B + B + 1) = bp (B + B) * 18446744073709551616 := bp_succ (B + B); omega
  have HM1 := hid (fun (va vb : Value) (w : World) (ha : Big w va (V k k)) (hb : Big w vb (V i j)) => mul_big ha hb (nl_bp (k := B) (by omega) b1) (nl_bp (k := B) (by omega) b2))
  have HM2 := hid (fun (va vb : Value) (w : World) (ha : Big w va (V i k)) (hb : Big w vb (V k j)) => mul_big ha hb (nl_bp (k := B) (by omega) b3) (nl_bp (k := B) (by omega) b4))
  have HS := hid (fun (va vb : Value) (w : World) (ha : Big w va (V k k * V i j)) (hb : Big w vb (V i k * V k j)) => sub_big ha hb (nl_bp (k := B + B) (by omega) p1) (nl_bp (k := B + B) (by omega) p2))
  have HD := hid (fun (va vb : Value) (w : World) (ha : Big w va (V k k * V i j - V i k * V k j)) (hb : Big w vb q) => div_big2 ha hb (nl_bp (k := B + B + 1) (by omega) p3) (nl_bp (k := B) (by omega) bq) (by omega))
  obtain ⟨z1, hz1⟩ : ∃ z, V k k = z := ⟨_, rfl⟩
  obtain ⟨z2, hz2⟩ : ∃ z, V i j = z := ⟨_, rfl⟩
  obtain ⟨z3, hz3⟩ : ∃ z, V i k = z := ⟨_, rfl⟩
  obtain ⟨z4, hz4⟩ : ∃ z, V k j = z := ⟨_, rfl⟩
  rw [hz1] at hkk
  rw [hz2] at hij
  rw [hz3] at hik
  rw [hz4] at hkj
  rw [hz1, hz2] at HM1
  rw [hz3, hz4] at HM2
  rw [hz1, hz2, hz3, hz4] at HS HD ⊢
  clear hz1 hz2 hz3 hz4 h1 h2 h3 h4 h5 h6 h7 h8 b1 b2 b3 b4 p1 p2 p3 hBk' hBi' hCk hCi hE bq hsk hB
  obtain ⟨y1, hy1⟩ : ∃ z, z1 * z2 = z := ⟨_, rfl⟩
  rw [hy1] at HM1 HS HD ⊢
  obtain ⟨y2, hy2⟩ : ∃ z, z3 * z4 = z := ⟨_, rfl⟩
  rw [hy2] at HM2 HS HD ⊢
  obtain ⟨y3, hy3⟩ : ∃ z, y1 - y2 = z := ⟨_, rfl⟩
  rw [hy3] at HS HD ⊢
  obtain ⟨y4, hy4⟩ : ∃ z, y3.tdiv q = z := ⟨_, rfl⟩
  rw [hy4] at HD ⊢
  clear hy1 hy2 hy3 hy4 h
  obtain ⟨W0, hW0⟩ : ∃ W0, w.alloc (.cells #[.bool pb, .slice pa pn pc] 46) = W0 := ⟨_, rfl⟩
  have hBp : Blk W0 w.heap.size 46 #[.bool pb, .slice pa pn pc] := by rw [← hW0]; exact Blk.new _ _ rfl
  have hU : Up w W0 := by rw [← hW0]; exact Up.alloc _ _
  have hsW : W0.heap.size = w.heap.size + 1 := by rw [← hW0]; simp
  obtain ⟨W1, hW1⟩ : ∃ W1, W0.alloc (.cells #[.bool false, .slice none 0 0] 46) = W1 := ⟨_, rfl⟩
  have hBr : Blk W1 (w.heap.size + 1) 46 #[.bool false, .slice none 0 0] := by rw [← hW1]; exact Blk.new _ _ hsW.symm
  have hU1 : Up W0 W1 := by rw [← hW1]; exact Up.alloc _ _
  have hUw : Up w W1 := hU.trans hU1
  have hBq := hBp.up hU1
  go_enter Tryz.func54, Tryz.ntmps54
  go_upto_region 1 with fail
  clear hW0 hW1 hU hU1 hBp
  refine wp_region_sp2 (n := 50) 38 39 35 36 37 11 12 [14, 15, 16, 17, 18, 19, 20, 21, 22, 23, 24, 25, 26, 27, 28, 29, 30, 31, 32, 33, 34, 35, 36, 37, 38, 39, 40, 41, 42, 43, 44, 45, 46, 13, 47, 48, 11, 12] [SP.is (.slice (some ⟨g, 0, none⟩) n cap), SP.is (.int .i64 (k : Nat)), SP.is (.pointer (some ⟨g, k, none⟩)), SP.is (.slice (some ⟨G k, 0, none⟩) m ck), SP.is (.int .i64 (k : Nat)), SP.is (.pointer (some ⟨G k, k * 2, none⟩)), SP.is (.agg #[.bool bkk, .slice akk nkk ckk]), SP.is (.slice (some ⟨g, 0, none⟩) n cap), SP.is (.int .i64 (i : Nat)), SP.is (.pointer (some ⟨g, i, none⟩)), SP.is (.slice (some ⟨G i, 0, none⟩) m ci), SP.is (.int .i64 (j : Nat)), SP.is (.pointer (some ⟨G i, j * 2, none⟩)), SP.is (.agg #[.bool bij, .slice aij nij cij]), SP.of (fun v w1 => Big w1 v y1) (fun _ _ _ h hu => h.up hu), SP.is (.slice (some ⟨g, 0, none⟩) n cap), SP.is (.int .i64 (i : Nat)), SP.is (.pointer (some ⟨g, i, none⟩)), SP.is (.slice (some ⟨G i, 0, none⟩) m ci), SP.is (.int .i64 (k : Nat)), SP.is (.pointer (some ⟨G i, k * 2, none⟩)), SP.is (.agg #[.bool bik, .slice aik nik cik]), SP.is (.slice (some ⟨g, 0, none⟩) n cap), SP.is (.int .i64 (k : Nat)), SP.is (.pointer (some ⟨g, k, none⟩)), SP.is (.slice (some ⟨G k, 0, none⟩) m ck), SP.is (.int .i64 (j : Nat)), SP.is (.pointer (some ⟨G k, j * 2, none⟩)), SP.is (.agg #[.bool bkj, .slice akj nkj ckj]), SP.of (fun v w1 => Big w1 v y2) (fun _ _ _ h hu => h.up hu), SP.of (fun v w1 => Big w1 v y3) (fun _ _ _ h hu => h.up hu), SP.is (.agg #[.bool pb, .slice pa pn pc]), SP.of (fun v w1 => ∃ b1 a1 n1 c1 b2 a2 n2 c2, v = .tuple #[.agg #[.bool b1, .slice a1 n1 c1], .agg #[.bool b2, .slice a2 n2 c2]] ∧ Big w1 (.agg #[.bool b1, .slice a1 n1 c1]) y4) (fun _ _ _ h hu => (by obtain ⟨b1, a1, n1, c1, b2, a2, n2, c2, h1, h2⟩ := h; exact ⟨b1, a1, n1, c1, b2, a2, n2, c2, h1, h2.up hu⟩)), SP.of (fun v w1 => ∃ b1 a1 n1 c1 b2 a2 n2 c2, v = .tuple #[.agg #[.bool b1, .slice a1 n1 c1], .agg #[.bool b2, .slice a2 n2 c2]] ∧ Big w1 (.agg #[.bool b1, .slice a1 n1 c1]) y4) (fun _ _ _ h hu => (by obtain ⟨b1, a1, n1, c1, b2, a2, n2, c2, h1, h2⟩ := h; exact ⟨b1, a1, n1, c1, b2, a2, n2, c2, h1, h2.up hu⟩)), SP.of (fun v w1 => Big w1 v y4) (fun _ _ _ h hu => h.up hu), SP.of (fun v _ => ∃ b1 a1 n1 c1, v = .agg #[.bool b1, .slice a1 n1 c1]) (fun _ _ _ h hu => h), SP.of (fun v w1 => ∃ b, v = .pointer (some ⟨b, 0, none⟩) ∧ W1.heap.size ≤ b ∧ Blk w1 b 46 #[.bool false, .slice none 0 0]) (fun _ _ _ h hu => h.imp fun _ k => ⟨k.1, k.2.1, k.2.2.up hu⟩), SP.of (fun v w1 => ∃ b, v = .pointer (some ⟨b, 0, none⟩) ∧ W1.heap.size ≤ b ∧ Blk w1 b 46 #[.bool false, .slice none 0 0]) (fun _ _ _ h hu => h.imp fun _ k => ⟨k.1, k.2.1, k.2.2.up hu⟩), SP.any, SP.any] (fun wq => Blk wq w.heap.size 46 #[.bool pb, .slice pa pn pc] ∧ Up w wq ∧ Up W1 wq ∧ Below w.heap.size w wq) (by kernel_rfl) (by rfl) (by kernel_rfl) (by kernel_rfl) (fun _ _ h hu => ⟨(h.1).up hu, (h.2.1).trans hu, (h.2.2.1).trans hu, below_up (h.2.2.2) hu⟩) ⟨(by first | assumption | exact gBlk), (by first | exact Up.refl _ | assumption), (by first | exact Up.refl _ | assumption), gUp⟩ ⟨fun i o hi => ⟨by rintro rfl; obtain rfl := Option.some.inj (show some _ = some o from hi); rfl, by rintro rfl; obtain rfl := Option.some.inj (show some _ = some o from hi); rfl⟩, (by decide), (fun i v w hi h => by rcases hi with rfl | rfl <;> (obtain ⟨b, rfl, _, h2⟩ := h; exact ⟨b, rfl, h2.lt⟩)), (fun i o ev w hi hk => by rcases hk with rfl | rfl <;> (obtain rfl := Option.some.inj (show some _ = some o from hi); exact ⟨w.alloc (.cells #[.bool false, .slice none 0 0] 46), by go_simp⟩))⟩ (fun ev w9 hS9 i o hne1 hne2 hi hev => ?_) (fun gR wE hq hJ hSE huE o1 o2 ox ho1 ho2 hox => ?_)
  · have ⟨hS1, hS2, hS3, hSB⟩ := hS9
    have hcC := hev.const
    have hcF := hev.func
    have hcG := hev.global
    rcases i with _ | _ | _ | _ | _ | _ | _ | _ | _ | _ | _ | _ | _ | _ | _ | _ | _ | _ | _ | _ | _ | _ | _ | _ | _ | _ | _ | _ | _ | _ | _ | _ | _ | _ | _ | _ | _ | _ | _ | _ | i
    · obtain rfl := Option.some.inj (show some _ = some o from hi)
      have e0 := hev.other 0 (by kernel_rfl)
      simp [Act.eval] at e0
      exact leavesR_value (u := .slice (some ⟨g, 0, none⟩) n cap) (by first | (go_simp; done) | (go_simp; exact rfl)) rfl
    · obtain rfl := Option.some.inj (show some _ = some o from hi)
      have e1 := hev.other 1 (by kernel_rfl)
      simp [Act.eval] at e1
      exact leavesR_value (u := .int .i64 (k : Nat)) (by first | (go_simp; done) | (go_simp; exact rfl)) rfl
    · obtain rfl := Option.some.inj (show some _ = some o from hi)
      have e14 : ev (.tmp 14) = (.slice (some ⟨g, 0, none⟩) n cap) := hev.dep 0 14 (by kernel_rfl)
      have e15 : ev (.tmp 15) = (.int .i64 (k : Nat)) := hev.dep 1 15 (by kernel_rfl)
      exact leavesR_value (u := .pointer (some ⟨g, k, none⟩)) (by first | (go_simp; done) | (go_simp; exact rfl)) rfl
    · obtain rfl := Option.some.inj (show some _ = some o from hi)
      have e16 : ev (.tmp 16) = (.pointer (some ⟨g, k, none⟩)) := hev.dep 2 16 (by kernel_rfl)
      have hcx := HCk.out w9 (hBg.up hS2); exact leavesR_value (u := .slice (some ⟨G k, 0, none⟩) m ck) (by go_simp) rfl
    · obtain rfl := Option.some.inj (show some _ = some o from hi)
      have e1 := hev.other 1 (by kernel_rfl)
      simp [Act.eval] at e1
      exact leavesR_value (u := .int .i64 (k : Nat)) (by first | (go_simp; done) | (go_simp; exact rfl)) rfl
    · obtain rfl := Option.some.inj (show some _ = some o from hi)
      have e17 : ev (.tmp 17) = (.slice (some ⟨G k, 0, none⟩) m ck) := hev.dep 3 17 (by kernel_rfl)
      have e18 : ev (.tmp 18) = (.int .i64 (k : Nat)) := hev.dep 4 18 (by kernel_rfl)
      exact leavesR_value (u := .pointer (some ⟨G k, k * 2, none⟩)) (by first | (go_simp; done) | (go_simp; exact rfl)) rfl
    · obtain rfl := Option.some.inj (show some _ = some o from hi)
      have e19 : ev (.tmp 19) = (.pointer (some ⟨G k, k * 2, none⟩)) := hev.dep 5 19 (by kernel_rfl)
      exact leavesR_value (run_ldB2 rfl e19 (Hkk.out _ (hBk.up hS2))) rfl
    · obtain rfl := Option.some.inj (show some _ = some o from hi)
      have e0 := hev.other 0 (by kernel_rfl)
      simp [Act.eval] at e0
      exact leavesR_value (u := .slice (some ⟨g, 0, none⟩) n cap) (by first | (go_simp; done) | (go_simp; exact rfl)) rfl
    · obtain rfl := Option.some.inj (show some _ = some o from hi)
      have e2 := hev.other 2 (by kernel_rfl)
      simp [Act.eval] at e2
      exact leavesR_value (u := .int .i64 (i : Nat)) (by first | (go_simp; done) | (go_simp; exact rfl)) rfl
    · obtain rfl := Option.some.inj (show some _ = some o from hi)
      have e21 : ev (.tmp 21) = (.slice (some ⟨g, 0, none⟩) n cap) := hev.dep 7 21 (by kernel_rfl)
      have e22 : ev (.tmp 22) = (.int .i64 (i : Nat)) := hev.dep 8 22 (by kernel_rfl)
      exact leavesR_value (u := .pointer (some ⟨g, i, none⟩)) (by first | (go_simp; done) | (go_simp; exact rfl)) rfl
    · obtain rfl := Option.some.inj (show some _ = some o from hi)
      have e23 : ev (.tmp 23) = (.pointer (some ⟨g, i, none⟩)) := hev.dep 9 23 (by kernel_rfl)
      have hcx := HCi.out w9 (hBg.up hS2); exact leavesR_value (u := .slice (some ⟨G i, 0, none⟩) m ci) (by go_simp) rfl
    · obtain rfl := Option.some.inj (show some _ = some o from hi)
      have e3 := hev.other 3 (by kernel_rfl)
      simp [Act.eval] at e3
      exact leavesR_value (u := .int .i64 (j : Nat)) (by first | (go_simp; done) | (go_simp; exact rfl)) rfl
    · obtain rfl := Option.some.inj (show some _ = some o from hi)
      have e24 : ev (.tmp 24) = (.slice (some ⟨G i, 0, none⟩) m ci) := hev.dep 10 24 (by kernel_rfl)
      have e25 : ev (.tmp 25) = (.int .i64 (j : Nat)) := hev.dep 11 25 (by kernel_rfl)
      exact leavesR_value (u := .pointer (some ⟨G i, j * 2, none⟩)) (by first | (go_simp; done) | (go_simp; exact rfl)) rfl
    · obtain rfl := Option.some.inj (show some _ = some o from hi)
      have e26 : ev (.tmp 26) = (.pointer (some ⟨G i, j * 2, none⟩)) := hev.dep 12 26 (by kernel_rfl)
      exact leavesR_value (run_ldB2 rfl e26 (Hij.out _ (hBi.up hS2))) rfl
    · obtain rfl := Option.some.inj (show some _ = some o from hi)
      have e20 : ev (.tmp 20) = (.agg #[.bool bkk, .slice akk nkk ckk]) := hev.dep 6 20 (by kernel_rfl)
      have e27 : ev (.tmp 27) = (.agg #[.bool bij, .slice aij nij cij]) := hev.dep 13 27 (by kernel_rfl)
      refine leavesR_call ?_ (HM1.out _ _ _ (e20 ▸ hkk.up hS2) (e27 ▸ hij.up hS2))
      go_simp
    · obtain rfl := Option.some.inj (show some _ = some o from hi)
      have e0 := hev.other 0 (by kernel_rfl)
      simp [Act.eval] at e0
      exact leavesR_value (u := .slice (some ⟨g, 0, none⟩) n cap) (by first | (go_simp; done) | (go_simp; exact rfl)) rfl
    · obtain rfl := Option.some.inj (show some _ = some o from hi)
      have e2 := hev.other 2 (by kernel_rfl)
      simp [Act.eval] at e2
      exact leavesR_value (u := .int .i64 (i : Nat)) (by first | (go_simp; done) | (go_simp; exact rfl)) rfl
    · obtain rfl := Option.some.inj (show some _ = some o from hi)
      have e29 : ev (.tmp 29) = (.slice (some ⟨g, 0, none⟩) n cap) := hev.dep 15 29 (by kernel_rfl)
      have e30 : ev (.tmp 30) = (.int .i64 (i : Nat)) := hev.dep 16 30 (by kernel_rfl)
      exact leavesR_value (u := .pointer (some ⟨g, i, none⟩)) (by first | (go_simp; done) | (go_simp; exact rfl)) rfl
    · obtain rfl := Option.some.inj (show some _ = some o from hi)
      have e31 : ev (.tmp 31) = (.pointer (some ⟨g, i, none⟩)) := hev.dep 17 31 (by kernel_rfl)
      have hcx := HCi.out w9 (hBg.up hS2); exact leavesR_value (u := .slice (some ⟨G i, 0, none⟩) m ci) (by go_simp) rfl
    · obtain rfl := Option.some.inj (show some _ = some o from hi)
      have e1 := hev.other 1 (by kernel_rfl)
      simp [Act.eval] at e1
      exact leavesR_value (u := .int .i64 (k : Nat)) (by first | (go_simp; done) | (go_simp; exact rfl)) rfl
    · obtain rfl := Option.some.inj (show some _ = some o from hi)
      have e32 : ev (.tmp 32) = (.slice (some ⟨G i, 0, none⟩) m ci) := hev.dep 18 32 (by kernel_rfl)
      have e33 : ev (.tmp 33) = (.int .i64 (k : Nat)) := hev.dep 19 33 (by kernel_rfl)
      exact leavesR_value (u := .pointer (some ⟨G i, k * 2, none⟩)) (by first | (go_simp; done) | (go_simp; exact rfl)) rfl
    · obtain rfl := Option.some.inj (show some _ = some o from hi)
      have e34 : ev (.tmp 34) = (.pointer (some ⟨G i, k * 2, none⟩)) := hev.dep 20 34 (by kernel_rfl)
      exact leavesR_value (run_ldB2 rfl e34 (Hik.out _ (hBi.up hS2))) rfl
    · obtain rfl := Option.some.inj (show some _ = some o from hi)
      have e0 := hev.other 0 (by kernel_rfl)
      simp [Act.eval] at e0
      exact leavesR_value (u := .slice (some ⟨g, 0, none⟩) n cap) (by first | (go_simp; done) | (go_simp; exact rfl)) rfl
    · obtain rfl := Option.some.inj (show some _ = some o from hi)
      have e1 := hev.other 1 (by kernel_rfl)
      simp [Act.eval] at e1
      exact leavesR_value (u := .int .i64 (k : Nat)) (by first | (go_simp; done) | (go_simp; exact rfl)) rfl
    · obtain rfl := Option.some.inj (show some _ = some o from hi)
      have e36 : ev (.tmp 36) = (.slice (some ⟨g, 0, none⟩) n cap) := hev.dep 22 36 (by kernel_rfl)
      have e37 : ev (.tmp 37) = (.int .i64 (k : Nat)) := hev.dep 23 37 (by kernel_rfl)
      exact leavesR_value (u := .pointer (some ⟨g, k, none⟩)) (by first | (go_simp; done) | (go_simp; exact rfl)) rfl
    · obtain rfl := Option.some.inj (show some _ = some o from hi)
      have e38 : ev (.tmp 38) = (.pointer (some ⟨g, k, none⟩)) := hev.dep 24 38 (by kernel_rfl)
      have hcx := HCk.out w9 (hBg.up hS2); exact leavesR_value (u := .slice (some ⟨G k, 0, none⟩) m ck) (by go_simp) rfl
    · obtain rfl := Option.some.inj (show some _ = some o from hi)
      have e3 := hev.other 3 (by kernel_rfl)
      simp [Act.eval] at e3
      exact leavesR_value (u := .int .i64 (j : Nat)) (by first | (go_simp; done) | (go_simp; exact rfl)) rfl
    · obtain rfl := Option.some.inj (show some _ = some o from hi)
      have e39 : ev (.tmp 39) = (.slice (some ⟨G k, 0, none⟩) m ck) := hev.dep 25 39 (by kernel_rfl)
      have e40 : ev (.tmp 40) = (.int .i64 (j : Nat)) := hev.dep 26 40 (by kernel_rfl)
      exact leavesR_value (u := .pointer (some ⟨G k, j * 2, none⟩)) (by first | (go_simp; done) | (go_simp; exact rfl)) rfl
    · obtain rfl := Option.some.inj (show some _ = some o from hi)
      have e41 : ev (.tmp 41) = (.pointer (some ⟨G k, j * 2, none⟩)) := hev.dep 27 41 (by kernel_rfl)
      exact leavesR_value (run_ldB2 rfl e41 (Hkj.out _ (hBk.up hS2))) rfl
    · obtain rfl := Option.some.inj (show some _ = some o from hi)
      have e35 : ev (.tmp 35) = (.agg #[.bool bik, .slice aik nik cik]) := hev.dep 21 35 (by kernel_rfl)
      have e42 : ev (.tmp 42) = (.agg #[.bool bkj, .slice akj nkj ckj]) := hev.dep 28 42 (by kernel_rfl)
      refine leavesR_call ?_ (HM2.out _ _ _ (e35 ▸ hik.up hS2) (e42 ▸ hkj.up hS2))
      go_simp
    · obtain rfl := Option.some.inj (show some _ = some o from hi)
      have e28 : (fun v w1 => Big w1 v y1) (ev (.tmp 28)) w9 := hev.dep 14 28 (by kernel_rfl)
      dsimp only at e28
      obtain ⟨v28, hv28⟩ : ∃ v, ev (.tmp 28) = v := ⟨_, rfl⟩
      rw [hv28] at e28
      have e43 : (fun v w1 => Big w1 v y2) (ev (.tmp 43)) w9 := hev.dep 29 43 (by kernel_rfl)
      dsimp only at e43
      obtain ⟨v43, hv43⟩ : ∃ v, ev (.tmp 43) = v := ⟨_, rfl⟩
      rw [hv43] at e43
      refine leavesR_call ?_ (HS.out _ _ _ e28 e43)
      go_simp
    · obtain rfl := Option.some.inj (show some _ = some o from hi)
      have e9 := hev.other 9 (by kernel_rfl)
      simp [Act.eval] at e9
      exact leavesR_value (run_ldBR rfl (by go_simp) hS1 rfl) rfl
    · obtain rfl := Option.some.inj (show some _ = some o from hi)
      have e44 : (fun v w1 => Big w1 v y3) (ev (.tmp 44)) w9 := hev.dep 30 44 (by kernel_rfl)
      dsimp only at e44
      obtain ⟨v44, hv44⟩ : ∃ v, ev (.tmp 44) = v := ⟨_, rfl⟩
      rw [hv44] at e44
      have e45 : ev (.tmp 45) = (.agg #[.bool pb, .slice pa pn pc]) := hev.dep 31 45 (by kernel_rfl)
      refine leavesR_call ?_ ((HD.out _ _ _ e44 (e45 ▸ hp.up hS2)).mono fun _ _ h => ⟨h.1, by obtain ⟨_, v, h0, b1, a1, n1, c1, b2, a2, n2, c2, h1, h2, _⟩ := h; exact ⟨v, h0, b1, a1, n1, c1, b2, a2, n2, c2, h1, h2⟩⟩)
      go_simp
    · obtain rfl := Option.some.inj (show some _ = some o from hi)
      have e46 : (fun v w1 => ∃ b1 a1 n1 c1 b2 a2 n2 c2, v = .tuple #[.agg #[.bool b1, .slice a1 n1 c1], .agg #[.bool b2, .slice a2 n2 c2]] ∧ Big w1 (.agg #[.bool b1, .slice a1 n1 c1]) y4) (ev (.tmp 46)) w9 := hev.dep 32 46 (by kernel_rfl)
      dsimp only at e46
      obtain ⟨v46, hv46⟩ : ∃ v, ev (.tmp 46) = v := ⟨_, rfl⟩
      rw [hv46] at e46
      obtain ⟨b1, a1, n1, c1, b2, a2, n2, c2, rfl, h2⟩ := e46; exact leavesR_value (u := .tuple #[.agg #[.bool b1, .slice a1 n1 c1], .agg #[.bool b2, .slice a2 n2 c2]]) (by go_simp) ⟨_, _, _, _, _, _, _, _, rfl, h2⟩
    · obtain rfl := Option.some.inj (show some _ = some o from hi)
      have e13 : (fun v w1 => ∃ b1 a1 n1 c1 b2 a2 n2 c2, v = .tuple #[.agg #[.bool b1, .slice a1 n1 c1], .agg #[.bool b2, .slice a2 n2 c2]] ∧ Big w1 (.agg #[.bool b1, .slice a1 n1 c1]) y4) (ev (.tmp 13)) w9 := hev.dep 33 13 (by kernel_rfl)
      dsimp only at e13
      obtain ⟨v13, hv13⟩ : ∃ v, ev (.tmp 13) = v := ⟨_, rfl⟩
      rw [hv13] at e13
      obtain ⟨b1, a1, n1, c1, b2, a2, n2, c2, rfl, h2⟩ := e13; exact leavesR_value (u := .agg #[.bool b1, .slice a1 n1 c1]) (by go_simp) h2
    · obtain rfl := Option.some.inj (show some _ = some o from hi)
      have e13 : (fun v w1 => ∃ b1 a1 n1 c1 b2 a2 n2 c2, v = .tuple #[.agg #[.bool b1, .slice a1 n1 c1], .agg #[.bool b2, .slice a2 n2 c2]] ∧ Big w1 (.agg #[.bool b1, .slice a1 n1 c1]) y4) (ev (.tmp 13)) w9 := hev.dep 33 13 (by kernel_rfl)
      dsimp only at e13
      obtain ⟨v13, hv13⟩ : ∃ v, ev (.tmp 13) = v := ⟨_, rfl⟩
      rw [hv13] at e13
      obtain ⟨b1, a1, n1, c1, b2, a2, n2, c2, rfl, h2⟩ := e13; exact leavesR_value (u := .agg #[.bool b2, .slice a2 n2 c2]) (by go_simp) ⟨_, _, _, _, rfl⟩
    · obtain rfl := Option.some.inj (show some _ = some o from hi)
      exact leavesR_up (u := .pointer (some ⟨w9.heap.size, 0, none⟩)) (w' := w9.alloc (.cells #[.bool false, .slice none 0 0] 46)) (by go_simp) (Up.alloc _ _) ⟨_, rfl, hS3.size, Blk.new _ _ rfl⟩
    · obtain rfl := Option.some.inj (show some _ = some o from hi)
      exact leavesR_up (u := .pointer (some ⟨w9.heap.size, 0, none⟩)) (w' := w9.alloc (.cells #[.bool false, .slice none 0 0] 46)) (by go_simp) (Up.alloc _ _) ⟨_, rfl, hS3.size, Blk.new _ _ rfl⟩
    · exact absurd rfl hne1
    · exact absurd rfl hne2
    · exact absurd (show i + 40 < 40 from (Array.getElem?_eq_some_iff.1 hi).1) (by omega)
  have ⟨hS1, hS2, hS3, hSB⟩ := hSE
  have q0 : gR 14 = (.slice (some ⟨g, 0, none⟩) n cap) := hq 0 14 (by decide) (by decide) (by decide) (by kernel_rfl)
  have q1 : gR 15 = (.int .i64 (k : Nat)) := hq 1 15 (by decide) (by decide) (by decide) (by kernel_rfl)
  have q2 : gR 16 = (.pointer (some ⟨g, k, none⟩)) := hq 2 16 (by decide) (by decide) (by decide) (by kernel_rfl)
  have q3 : gR 17 = (.slice (some ⟨G k, 0, none⟩) m ck) := hq 3 17 (by decide) (by decide) (by decide) (by kernel_rfl)
  have q4 : gR 18 = (.int .i64 (k : Nat)) := hq 4 18 (by decide) (by decide) (by decide) (by kernel_rfl)
  have q5 : gR 19 = (.pointer (some ⟨G k, k * 2, none⟩)) := hq 5 19 (by decide) (by decide) (by decide) (by kernel_rfl)
  have q6 : gR 20 = (.agg #[.bool bkk, .slice akk nkk ckk]) := hq 6 20 (by decide) (by decide) (by decide) (by kernel_rfl)
  have q7 : gR 21 = (.slice (some ⟨g, 0, none⟩) n cap) := hq 7 21 (by decide) (by decide) (by decide) (by kernel_rfl)
  have q8 : gR 22 = (.int .i64 (i : Nat)) := hq 8 22 (by decide) (by decide) (by decide) (by kernel_rfl)
  have q9 : gR 23 = (.pointer (some ⟨g, i, none⟩)) := hq 9 23 (by decide) (by decide) (by decide) (by kernel_rfl)
  have q10 : gR 24 = (.slice (some ⟨G i, 0, none⟩) m ci) := hq 10 24 (by decide) (by decide) (by decide) (by kernel_rfl)
  have q11 : gR 25 = (.int .i64 (j : Nat)) := hq 11 25 (by decide) (by decide) (by decide) (by kernel_rfl)
  have q12 : gR 26 = (.pointer (some ⟨G i, j * 2, none⟩)) := hq 12 26 (by decide) (by decide) (by decide) (by kernel_rfl)
  have q13 : gR 27 = (.agg #[.bool bij, .slice aij nij cij]) := hq 13 27 (by decide) (by decide) (by decide) (by kernel_rfl)
  have q14 : (fun v w1 => Big w1 v y1) (gR 28) wE := hq 14 28 (by decide) (by decide) (by decide) (by kernel_rfl)
  dsimp only at q14
  obtain ⟨v28, hv28⟩ : ∃ v, gR 28 = v := ⟨_, rfl⟩
  rw [hv28] at q14
  have q15 : gR 29 = (.slice (some ⟨g, 0, none⟩) n cap) := hq 15 29 (by decide) (by decide) (by decide) (by kernel_rfl)
  have q16 : gR 30 = (.int .i64 (i : Nat)) := hq 16 30 (by decide) (by decide) (by decide) (by kernel_rfl)
  have q17 : gR 31 = (.pointer (some ⟨g, i, none⟩)) := hq 17 31 (by decide) (by decide) (by decide) (by kernel_rfl)
  have q18 : gR 32 = (.slice (some ⟨G i, 0, none⟩) m ci) := hq 18 32 (by decide) (by decide) (by decide) (by kernel_rfl)
  have q19 : gR 33 = (.int .i64 (k : Nat)) := hq 19 33 (by decide) (by decide) (by decide) (by kernel_rfl)
  have q20 : gR 34 = (.pointer (some ⟨G i, k * 2, none⟩)) := hq 20 34 (by decide) (by decide) (by decide) (by kernel_rfl)
  have q21 : gR 35 = (.agg #[.bool bik, .slice aik nik cik]) := hq 21 35 (by decide) (by decide) (by decide) (by kernel_rfl)
  have q22 : gR 36 = (.slice (some ⟨g, 0, none⟩) n cap) := hq 22 36 (by decide) (by decide) (by decide) (by kernel_rfl)
  have q23 : gR 37 = (.int .i64 (k : Nat)) := hq 23 37 (by decide) (by decide) (by decide) (by kernel_rfl)
  have q24 : gR 38 = (.pointer (some ⟨g, k, none⟩)) := hq 24 38 (by decide) (by decide) (by decide) (by kernel_rfl)
  have q25 : gR 39 = (.slice (some ⟨G k, 0, none⟩) m ck) := hq 25 39 (by decide) (by decide) (by decide) (by kernel_rfl)
  have q26 : gR 40 = (.int .i64 (j : Nat)) := hq 26 40 (by decide) (by decide) (by decide) (by kernel_rfl)
  have q27 : gR 41 = (.pointer (some ⟨G k, j * 2, none⟩)) := hq 27 41 (by decide) (by decide) (by decide) (by kernel_rfl)
  have q28 : gR 42 = (.agg #[.bool bkj, .slice akj nkj ckj]) := hq 28 42 (by decide) (by decide) (by decide) (by kernel_rfl)
  have q29 : (fun v w1 => Big w1 v y2) (gR 43) wE := hq 29 43 (by decide) (by decide) (by decide) (by kernel_rfl)
  dsimp only at q29
  obtain ⟨v43, hv43⟩ : ∃ v, gR 43 = v := ⟨_, rfl⟩
  rw [hv43] at q29
  have q30 : (fun v w1 => Big w1 v y3) (gR 44) wE := hq 30 44 (by decide) (by decide) (by decide) (by kernel_rfl)
  dsimp only at q30
  obtain ⟨v44, hv44⟩ : ∃ v, gR 44 = v := ⟨_, rfl⟩
  rw [hv44] at q30
  have q31 : gR 45 = (.agg #[.bool pb, .slice pa pn pc]) := hq 31 45 (by decide) (by decide) (by decide) (by kernel_rfl)
  have q32 : (fun v w1 => ∃ b1 a1 n1 c1 b2 a2 n2 c2, v = .tuple #[.agg #[.bool b1, .slice a1 n1 c1], .agg #[.bool b2, .slice a2 n2 c2]] ∧ Big w1 (.agg #[.bool b1, .slice a1 n1 c1]) y4) (gR 46) wE := hq 32 46 (by decide) (by decide) (by decide) (by kernel_rfl)
  dsimp only at q32
  obtain ⟨v46, hv46⟩ : ∃ v, gR 46 = v := ⟨_, rfl⟩
  rw [hv46] at q32
  have q33 : (fun v w1 => ∃ b1 a1 n1 c1 b2 a2 n2 c2, v = .tuple #[.agg #[.bool b1, .slice a1 n1 c1], .agg #[.bool b2, .slice a2 n2 c2]] ∧ Big w1 (.agg #[.bool b1, .slice a1 n1 c1]) y4) (gR 13) wE := hq 33 13 (by decide) (by decide) (by decide) (by kernel_rfl)
  dsimp only at q33
  obtain ⟨v13, hv13⟩ : ∃ v, gR 13 = v := ⟨_, rfl⟩
  rw [hv13] at q33
  have q34 : (fun v w1 => Big w1 v y4) (gR 47) wE := hq 34 47 (by decide) (by decide) (by decide) (by kernel_rfl)
  dsimp only at q34
  obtain ⟨v47, hv47⟩ : ∃ v, gR 47 = v := ⟨_, rfl⟩
  rw [hv47] at q34
  have q36 : (fun v w1 => ∃ b, v = .pointer (some ⟨b, 0, none⟩) ∧ W1.heap.size ≤ b ∧ Blk w1 b 46 #[.bool false, .slice none 0 0]) (gR 11) wE := hq 36 11 (by decide) (by decide) (by decide) (by kernel_rfl)
  dsimp only at q36
  obtain ⟨v11, hv11⟩ : ∃ v, gR 11 = v := ⟨_, rfl⟩
  rw [hv11] at q36
  have q37 : (fun v w1 => ∃ b, v = .pointer (some ⟨b, 0, none⟩) ∧ W1.heap.size ≤ b ∧ Blk w1 b 46 #[.bool false, .slice none 0 0]) (gR 12) wE := hq 37 12 (by decide) (by decide) (by decide) (by kernel_rfl)
  dsimp only at q37
  obtain ⟨v12, hv12⟩ : ∃ v, gR 12 = v := ⟨_, rfl⟩
  rw [hv12] at q37
  obtain rfl := Option.some.inj (show some _ = some o1 from ho1)
  obtain rfl := Option.some.inj (show some _ = some o2 from ho2)
  obtain rfl := Option.some.inj (show some _ = some ox from hox)
  rw [hv11, hv12] at hJ
  simp only [putL, List.map_cons, List.map_nil, q0, q1, q2, q3, q4, q5, q6, q7, q8, q9, q10, q11, q12, q13, hv28, q15, q16, q17, q18, q19, q20, q21, q22, q23, q24, q25, q26, q27, q28, hv43, hv44, q31, hv46, hv13, hv47, hv11, hv12, Act.put, pu1, pu2, pu3]
  clear hq hSE q0 q1 q2 q3 q4 q5 q6 q7 q8 q9 q10 q11 q12 q13 q15 q16 q17 q18 q19 q20 q21 q22 q23 q24 q25 q26 q27 q28 q31
  obtain ⟨b4, a4, m4, c4, rfl⟩ := q34.shape
  obtain ⟨z1, rfl, hz1, hBz1⟩ := q36
  obtain ⟨z2, rfl, hz2, hBz2⟩ := q37
  have hne : z2 ≠ z1 := fun e => hJ (by rw [e])
  have hsz : w.heap.size + 1 < W1.heap.size := hBr.lt
  have g1 := hBz1.setRow #[.bool b4, .slice a4 m4 c4]
  have g2 := big_set (D := #[.bool b4, .slice a4 m4 c4]) hBz1 q34
  have g3 := Blk.row_other hBz2 #[.bool b4, .slice a4 m4 c4] hne
  have g4 := Blk.row_other (hBr.up hS3) #[.bool b4, .slice a4 m4 c4] (show w.heap.size + 1 ≠ z1 by omega)
  have g5 : Up w _ := below_setRow hS2 (show w.heap.size ≤ z1 by omega) #[.bool b4, .slice a4 m4 c4]
  refine ⟨fun hx => ?_, ?_⟩
  · obtain ⟨b5, a5, m5, c5, h5⟩ := hx 48 rfl
    rw [h5]
    refine wp_stB rfl rfl rfl rfl hBz1 rfl rfl (one2 _ _ _ _) ?_
    refine wp_stB rfl rfl rfl rfl g3 rfl rfl (one2 _ _ _ _) ?_
    have k1 := Blk.row_other g1 #[.bool b5, .slice a5 m5 c5] (Ne.symm hne)
    have k2 := big_set (D := #[.bool b5, .slice a5 m5 c5]) g3 g2
    have k4 := Blk.row_other g4 #[.bool b5, .slice a5 m5 c5] (show w.heap.size + 1 ≠ z2 by omega)
    have k5 : Up w _ := below_setRow g5 (show w.heap.size ≤ z2 by omega) #[.bool b5, .slice a5 m5 c5]
    obtain ⟨wK, hwK⟩ : ∃ wK, (wE.setRow z1 #[.bool b4, .slice a4 m4 c4]).setRow z2 #[.bool b5, .slice a5 m5 c5] = wK := ⟨_, rfl⟩
    rw [hwK] at k1 k2 k4 k5 ⊢
    clear hwK g1 g2 g3 g4 g5 hS1 hS2 hS3 hSB huE hBz1 hBz2 q14 q29 q30 q32 q33 q34 hx
    go_wp2_with (first
      | ((with_reducible apply ldB_P); exact rfl; exact rfl; exact k1; exact rfl)
      | ((with_reducible apply stB_P); exact rfl; exact rfl; exact k4; exact rfl; exact rfl; exact one2 _ _ _ _
         refine wpL_folded (fun wd => Up w wd ∧ Blk wd (w.heap.size + 1) 46 #[.bool b4, .slice a4 m4 c4] ∧ Big wd (.agg #[.bool b4, .slice a4 m4 c4]) y4) ⟨below_setRow k5 (by omega) _, Blk.setRow k4 _, big_set k4 k2⟩ ?_
         rintro w6 ⟨j5, j4, j2⟩))
    exact bodyPost_ret (resB rfl rfl j4 rfl) rfl ⟨j5, _, rfl, j2⟩
  · obtain ⟨b1, a1, m1, c1, b2, a2, m2, c2, rfl, -⟩ := q33
    refine wp_stB rfl rfl rfl rfl hBz1 rfl rfl (one2 _ _ _ _) ?_
    refine wp_val (v := .agg #[.bool b2, .slice a2 m2 c2]) (by go_simp) ?_
    refine wp_stB rfl rfl rfl rfl g3 rfl rfl (one2 _ _ _ _) ?_
    have k1 := Blk.row_other g1 #[.bool b2, .slice a2 m2 c2] (Ne.symm hne)
    have k2 := big_set (D := #[.bool b2, .slice a2 m2 c2]) g3 g2
    have k4 := Blk.row_other g4 #[.bool b2, .slice a2 m2 c2] (show w.heap.size + 1 ≠ z2 by omega)
    have k5 : Up w _ := below_setRow g5 (show w.heap.size ≤ z2 by omega) #[.bool b2, .slice a2 m2 c2]
    obtain ⟨wK, hwK⟩ : ∃ wK, (wE.setRow z1 #[.bool b4, .slice a4 m4 c4]).setRow z2 #[.bool b2, .slice a2 m2 c2] = wK := ⟨_, rfl⟩
    rw [hwK] at k1 k2 k4 k5 ⊢
    clear hwK g1 g2 g3 g4 g5 hS1 hS2 hS3 hSB huE hBz1 hBz2 q14 q29 q30 q32 q34
    go_wp2_with (first
      | ((with_reducible apply ldB_P); exact rfl; exact rfl; exact k1; exact rfl)
      | ((with_reducible apply stB_P); exact rfl; exact rfl; exact k4; exact rfl; exact rfl; exact one2 _ _ _ _
         refine wpL_folded (fun wd => Up w wd ∧ Blk wd (w.heap.size + 1) 46 #[.bool b4, .slice a4 m4 c4] ∧ Big wd (.agg #[.bool b4, .slice a4 m4 c4]) y4) ⟨below_setRow k5 (by omega) _, Blk.setRow k4 _, big_set k4 k2⟩ ?_
         rintro w6 ⟨j5, j4, j2⟩))
    exact bodyPost_ret (resB rfl rfl j4 rfl) rfl ⟨j5, _, rfl, j2⟩
theorem rsign_big {v : Value} {z : Int} {w : World} (h : Big w v z) : Calls Tryz.prog 52 #[v] w fun r w' => r = .returned (.int .i64 (sgn z)) ∧ Up w w' := by
  obtain ⟨a, c, rfl, -⟩ := h
  rw [← sgn_big]
  exact bsign_any _ _ _ _ _
theorem OwnB.blk {w : World} {b : Nat} {v : Value} {l : List Int} (h : OwnB w b v l) : ∀ k, v.ownBlock = some k → b ≤ k ∧ k < w.heap.size ∧ ∃ C, Blk w k 46 C := by
  intro k hk
  obtain ⟨xs, hx, _⟩ := h
  have hlt := World.ownsRow.lt hx k hk
  obtain ⟨_, ⟨rfl, _⟩ | ⟨g', cap, cur, rfl, _, hB, _⟩⟩ := hx
  · simp [Value.ownBlock] at hk
  · simp [Value.ownBlock] at hk; subst hk; exact ⟨hlt.1, hlt.2, cur, hB⟩
theorem OwnB.lower {w : World} {b g : Nat} {v : Value} {l : List Int} {C : Array Value} (h : OwnB w b v l) (hC : Blk w g 46 C) (D : Array Value) (hg : g < b) : OwnB (w.setRow g D) b v l := by
  obtain ⟨xs, ⟨h0, h1⟩, h2⟩ := h
  refine ⟨xs, ⟨h0, ?_⟩, fun i hi => ?_⟩
  · rcases h1 with h1 | ⟨g', cap, cur, hv, hb, hB, hr⟩
    · exact .inl h1
    · exact .inr ⟨g', cap, cur, hv, hb, Blk.row_other (w := w) hB _ (by omega), hr⟩
  · obtain ⟨b', a, n, c, e1, e2, e3⟩ := h2 i hi
    exact ⟨b', a, n, c, e1, e2, e3.setRow hC⟩
theorem OwnM.otherB {w : World} {base n m p : Nat} {v : Value} {G : Nat → Nat} {V : Nat → Nat → Int} {C : Array Value} (h : OwnM w base v n m G V) (hC : Blk w p 46 C) (D : Array Value) (hp : ∀ i, i < n → G i ≠ p) : OwnM (w.setRow p D) base v n m G V := by
  obtain ⟨xs, ⟨h0, h1⟩, h2, h3, h4⟩ := h
  refine ⟨xs, ⟨h0, ?_⟩, h2, fun i hi => ⟨(h3 i hi).1, (h3 i hi).2.other hC _ (hp i hi)⟩, h4⟩
  rcases h1 with h1 | ⟨g', cap, cur, hv, hb, hB, hr⟩
  · exact .inl h1
  · refine .inr ⟨g', cap, cur, hv, hb, Blk.row_other (w := w) hB _ fun e => ?_, hr⟩
    subst e
    unfold Blk at hC
    rw [hC] at hB
    simp at hB
theorem OwnM.grownB {w w' : World} {base n m : Nat} {v : Value} {G : Nat → Nat} {V : Nat → Nat → Int} {row : Option Nat} (h : OwnM w base v n m G V) (hg : w.grownBy w' row) (hr : ∀ k, row = some k → (∃ C, Blk w k 46 C) ∧ ∀ i, i < n → G i ≠ k) : OwnM w' base v n m G V := by
  obtain ⟨xs, ⟨h0, h1⟩, h2, h3, h4⟩ := h
  refine ⟨xs, ⟨h0, ?_⟩, h2, fun i hi => ⟨(h3 i hi).1, ?_⟩, h4⟩
  · rcases h1 with h1 | ⟨g', cap, cur, hv, hb, hB, hq⟩
    · exact .inl h1
    · refine .inr ⟨g', cap, cur, hv, hb, Blk.grown hB hg fun e => ?_, hq⟩
      obtain ⟨C, hC⟩ := (hr g' e).1
      unfold Blk at hC
      rw [hC] at hB
      simp at hB
  · obtain ⟨C, e1, e2, e3⟩ := (h3 i hi).2
    refine ⟨C, e1.grown hg fun e => (hr _ e).2 i hi rfl, e2, fun j hj => ?_⟩
    obtain ⟨b, a, k, c, e4, e5, e6⟩ := e3 j hj
    exact ⟨b, a, k, c, e4, e5, e6.grown hg fun k hk => (hr k hk).1⟩
structure MI (w : World) (base bP bO n : Nat) (av : Value) (G : Nat → Nat) (b0 : Bool) (p0 : Option Addr) (n0 c0 : Nat) (q : Int) (tv : Value) (L : List Int) (V : Nat → Nat → Int) (wr : World) : Prop where
  m : OwnM wr base av n n G V
  p : Blk wr bP 46 #[.bool b0, .slice p0 n0 c0]
  q : Big wr (.agg #[.bool b0, .slice p0 n0 c0]) q
  l : OwnB wr bO tv L
  u : Below base w wr
theorem MI.up {w : World} {base bP bO n : Nat} {av : Value} {G : Nat → Nat} {b0 : Bool} {p0 : Option Addr} {n0 c0 : Nat} {q : Int} {tv : Value} {L : List Int} {V : Nat → Nat → Int} {wr wr' : World} (h : MI w base bP bO n av G b0 p0 n0 c0 q tv L V wr) (hu : Up wr wr') (hb : base ≤ w.heap.size) : MI w base bP bO n av G b0 p0 n0 c0 q tv L V wr' :=
  ⟨h.m.up hu, h.p.up hu, h.q.up hu, h.l.up hu, hu.below h.u (Nat.le_trans hb h.u.size)⟩
theorem MI.set {w : World} {base bP bO n : Nat} {av : Value} {G : Nat → Nat} {b0 : Bool} {p0 : Option Addr} {n0 c0 : Nat} {q : Int} {tv : Value} {L : List Int} {V : Nat → Nat → Int} {wr : World} (h : MI w base bP bO n av G b0 p0 n0 c0 q tv L V wr) {i j : Nat} (hi : i < n) (hj : j < n) (hG : ∀ q, q < n → G q < bP) (hPO : bP < bO)
    {C : Array Value} (hC : Blk wr (G i) 46 C) {b : Bool} {p : Option Addr} {k c : Nat} {z : Int} (hz : Big wr (.agg #[.bool b, .slice p k c]) z) :
    MI w base bP bO n av G b0 p0 n0 c0 q tv L (upd2 V i j z) (wr.setRow (G i) (splB C (j * 2) [.bool b, .slice p k c])) := by
  have hg := hG i hi
  have hb : base ≤ G i := by obtain ⟨_, _, _, h3, _⟩ := h.m; exact (h3 i hi).1
  exact ⟨(h.m.set hi hj hC hz).1, Blk.row_other h.p _ (by omega), h.q.setRow hC, h.l.lower hC _ (by omega), below_setRow h.u hb _⟩
def At1 (n k : Nat) (q : Int) (M : Nat → Nat → Int) (i j : Nat) (V : Nat → Nat → Int) : Prop :=
  ∀ r c, k ≤ r → r < n → k ≤ c → c < n → V r c = if k + 1 ≤ r ∧ k + 1 ≤ c ∧ (r < i ∨ r = i ∧ c < j) then nxt q M (r - (k + 1)) (c - (k + 1)) else M (r - k) (c - k)
theorem At1.start {n k : Nat} {q : Int} {M V : Nat → Nat → Int} (h : ∀ r c, k ≤ r → r < n → k ≤ c → c < n → V r c = M (r - k) (c - k)) : At1 n k q M (k + 1) (k + 1) V := fun r c h1 h2 h3 h4 => by
  rw [if_neg (by omega)]; exact h r c h1 h2 h3 h4
theorem At1.row {n k i : Nat} {q : Int} {M V : Nat → Nat → Int} (h : At1 n k q M i n V) : At1 n k q M (i + 1) (k + 1) V := fun r c h1 h2 h3 h4 => by
  rw [h r c h1 h2 h3 h4]
  by_cases e : k + 1 ≤ r ∧ k + 1 ≤ c ∧ (r < i ∨ r = i ∧ c < n)
  · rw [if_pos e, if_pos (by omega)]
  · rw [if_neg e, if_neg (by omega)]
theorem At1.all {n k : Nat} {q : Int} {M V : Nat → Nat → Int} (h : At1 n k q M n (k + 1) V) : ∀ r c, k + 1 ≤ r → r < n → k + 1 ≤ c → c < n → V r c = nxt q M (r - (k + 1)) (c - (k + 1)) := fun r c h1 h2 h3 h4 => by
  rw [h r c (by omega) h2 (by omega) h4, if_pos (by omega)]
theorem At1.old {n k i j : Nat} {q : Int} {M V : Nat → Nat → Int} (h : At1 n k q M i j V) {r c : Nat} (h1 : k ≤ r) (h2 : r < n) (h3 : k ≤ c) (h4 : c < n) (e : ¬ (k + 1 ≤ r ∧ k + 1 ≤ c ∧ (r < i ∨ r = i ∧ c < j))) : V r c = M (r - k) (c - k) := by
  rw [h r c h1 h2 h3 h4, if_neg e]
theorem At1.step {n k i j : Nat} {q : Int} {M V : Nat → Nat → Int} (h : At1 n k q M i j V) (hi : k + 1 ≤ i) (hin : i < n) (hj : k + 1 ≤ j) (hjn : j < n) : (V k k * V i j - V i k * V k j).tdiv q = nxt q M (i - (k + 1)) (j - (k + 1)) := by
  rw [h.old (r := k) (c := k) (by omega) (by omega) (by omega) (by omega) (by omega), h.old (r := i) (c := j) (by omega) (by omega) (by omega) (by omega) (by omega), h.old (r := i) (c := k) (by omega) (by omega) (by omega) (by omega) (by omega), h.old (r := k) (c := j) (by omega) (by omega) (by omega) (by omega) (by omega)]
  unfold nxt chio
  rw [Nat.sub_self, show i - (k + 1) + 1 = i - k by omega, show j - (k + 1) + 1 = j - k by omega]
theorem At1.set {n k i j : Nat} {q : Int} {M V : Nat → Nat → Int} (h : At1 n k q M i j V) (hi : k + 1 ≤ i) (hj : k + 1 ≤ j) : At1 n k q M i (j + 1) (upd2 V i j (nxt q M (i - (k + 1)) (j - (k + 1)))) := fun r c h1 h2 h3 h4 => by
  unfold upd2
  by_cases e : r = i ∧ c = j
  · rw [if_pos e, e.1, e.2, if_pos (by omega)]
  · rw [if_neg e, h r c h1 h2 h3 h4]
    by_cases e2 : k + 1 ≤ r ∧ k + 1 ≤ c ∧ (r < i ∨ r = i ∧ c < j)
    · rw [if_pos e2, if_pos (by omega)]
    · rw [if_neg e2, if_neg (by omega)]
theorem full_range {w : World} {g : Nat} {C : Array Value} {l : List Int} (hB : Blk w g 33 C) (ht : C.toList.take (l.length * 16) = wcs l) : w.rangeAt g 0 (wcs l) := by
  intro j v hv
  have hj : j < l.length * 16 := by have := (List.getElem?_eq_some_iff.1 hv).1; rw [wcs_len] at this; exact this
  rw [Nat.zero_add]
  refine hB.cell _ ?_
  rw [← ht, List.getElem?_take_of_lt hj] at hv
  rw [← Array.getElem?_toList]
  exact hv
def sumR (A B : List Int) : List Int := mk A.length fun i => zth A i + zth B i
set_option maxHeartbeats 8000000 in
theorem added_any {va vb : Value} {A B : List Int} {w : World} (hA : Wv w va A) (hB : Wv w vb B) (hl : B.length = A.length) (h0 : 0 < A.length) (h8 : A.length ≤ 9) (bA : Few A) (bB : Few B) :
    Calls Tryz.prog 79 #[va, vb] w fun r w' => ∃ z, r = .returned z ∧ Up w w' ∧ ∃ b, w.heap.size ≤ b ∧ OwnW w' b z (sumR A B) := by
  obtain ⟨gA, cA, CA, rfl, -, hBA, htA⟩ := hA.open h0
  obtain ⟨gB, cB, CB, rfl, -, hBB, htB⟩ := hB.open (by omega)
  have HRA := hid (full_range hBA htA)
  have htB' := htB
  have HRB := hid (fun i (hi : i < B.length) w' (hB : Blk w' gB 33 CB) => wv_range hB htB' hi)
  have hsl : (sumR A B).length = A.length := mk_len _ _
  have HlL := hid hsl
  have HAt := hid (fun i (hi : i < A.length) => show zth (sumR A B) i = zth A i + zth B i from mk_at hi)
  rw [hl]
  obtain ⟨S, hS⟩ : ∃ y, sumR A B = y := ⟨_, rfl⟩
  rw [hS] at HlL HAt ⊢
  clear hA hB htA htB hBA htB' hS hsl
  go_enter Tryz.func79, Tryz.ntmps79
  go_wp2_with (first
    | ((with_reducible apply appW (l := []) (m := A)); exact rfl; exact rfl; exact OwnW.nil _ w.heap.size; exact HRA.out; exact Nat.le_refl _; (focus (simp; done)); (focus omega); rintro v1 w1 hO1 - hb1; rw [List.nil_append] at hO1; obtain ⟨pL, cL, rfl⟩ := hO1.slice))
  have hU1 : Up w w1 := hb1
  go_loopg [11] A.length (fun g ti wr => ∃ i : Nat, i ≤ A.length ∧ A.length - i ≤ g ∧ ti = .int .i64 (i : Nat) ∧ OwnW wr w.heap.size (.slice pL A.length cL) (mixed S A i) ∧ Up w wr)
  case atStart => exact ⟨0, Nat.zero_le _, by omega, rfl, by rw [mixed_zero]; exact hO1, hU1⟩
  case round =>
    clear hO1 hU1 hb1
    obtain ⟨i, hi, hig, rfl, hO, hu⟩ := hrel
    by_cases hlt : i < A.length
    · have hml := mixed_len HlL.out i
      obtain ⟨gL, cL', CL, hv, hbL, hBL, -, -, -, htL⟩ := hO.open (by omega)
      injection hv with x1 x2 x3
      subst x1 x3
      have hmi : zth (mixed S A i) i = zth A i := mixed_at HlL.out hlt
      have HRL := hid (fun w' (hB : Blk w' gL 33 CL) => hmi ▸ wv_range hB htL (by omega))
      have HRi := hid (HRB.out i (by omega))
      have b3 : (zth A i + zth B i).natAbs < bp 6 := by
        have e : bp 6 = bp 5 * 18446744073709551616 := bp_succ 5
        have h1 := bA i
        have h2 := bB i
        have h3 := Int.natAbs_add_le (zth A i) (zth B i)
        omega
      have HS := hid (fun w => add_z (few_inR (by omega) (bA i)) (few_inR (by omega) (bB i)) w)
      rw [opt_yes (few_inR (by omega) b3), ← HAt.out i hlt] at HS
      have HSet := hid (mixed_set HlL.out hlt)
      have e1 : IntKind.i64.wrap ((i : Int) + 1) = (i : Int) + 1 := IntWalk.i64_in _ (by omega)
      unfold wideV at HS
      clear b3 hmi htL hml x2
      have hBBr := hBB.up hu
      generalize zth A i = a at *
      generalize zth B i = b at *
      go_wp2_with fail
      refine opU (S := (fun wq => Up wr wq ∧ Below w.heap.size w wq)) (req := (fun j => j != 15)) (fun _ _ h hu => ⟨(h.1).trans hu, below_up (h.2) hu⟩) ⟨(by first | exact Up.refl _ | assumption), gUp⟩ (fun wS hSS hSu => ?_)
      have ⟨hS1, hSB⟩ := hSS
      refine tkP 0 (some 15) hSu ?_
      refine tkP 1 (some 16) hSu ?_
      refine tkP 2 (some 17) hSu ?_
      refine tkP 3 (some 18) hSu ?_
      refine tkP 4 (some 19) hSu ?_
      refine tkT 5 (some 20) rfl hSu hSS ?_ (hy := fun w' hSw => run_ldW rfl rfl (HRL.out _ (hBL.up hSw.1)))
      refine tkP 6 (some 21) hSu ?_
      refine tkP 7 (some 22) hSu ?_
      refine tkP 8 (some 23) hSu ?_
      refine tkT 9 (some 24) rfl hSu hSS ?_ (hy := fun w' hSw => run_ldW rfl rfl (HRi.out _ (hBBr.up hSw.1)))
      refine tkC 10 (some 25) rfl hSu hSS ?_ (hy := fun w' hSw => (HS.out _))
      refine tkP 11 (some 14) hSu ?_
      refine tkP 12 (some 26) hSu ?_
      refine tkP 13 (some 27) hSu ?_
      refine tkP 14 (some 28) hSu ?_
      refine wpAnyU_one (i := 15) rfl (by kernel_rfl) (by rfl) fun wX hwX => ?_
      have hset := ((hO.up hS1).up hwX).set ((hBL.up hS1).up hwX) (i := i) (by rw [mixed_len HlL.out]; exact hlt) (zth S i)
      rw [HSet.out] at hset
      refine wp_stW (z := zth S i) _ _ rfl rfl rfl ((hBL.up hS1).up hwX) hset.2 ?_
      refine ⟨fun h => by simp at h, ?_⟩
      try simp only [Act.put, pu1]
      refine wpAnyU_done (by kernel_rfl) (fun wF huE => ?_) _
      have gO := hset.1.up huE
      have gU := Up.trans (below_setRow ((hu.trans hS1).trans hwX) (show w.heap.size ≤ gL by omega) (splW CL (i * 16) (zth S i))) huE
      clear hset hS1 hSB hSS hwX huE
      go_wp2_with fail
      go_roundg (A.length - (i + 1))
      case measure => omega
      case rel => exact ⟨i + 1, hlt, Nat.le_refl _, rfl, gO, gU⟩
    · obtain rfl : i = A.length := by omega
      rw [← HlL.out, mixed_all HlL.out] at hO
      go_wp2_with fail
      go_ret
      rw [HlL.out] at hO
      exact ⟨_, rfl, hu, _, Nat.le_refl _, hO⟩
theorem tail_P {ops : Array Oper} {rest : List Oper} {Q : Exit → Act → World → Prop} {a : Act} {w : World} {d : Option Tmp} {s : Tmp} {ty : TypeId} {pos : String} {af : Array Edge} {gd : Option (Nat × Bool)} {g n c2 : Nat}
    (hw : Region.wanted { dst := d, op := .slice 92 (.tmp s) (some (.const (.int .i64 1))) none none, type := ty, pos := pos, after := af, guard := gd } (yielded ops a.tmps) = true) (hx : a.eval (.tmp s) = .slice (some ⟨g, 0, none⟩) (n + 1) (c2 + 1)) (hc : n ≤ c2)
    (h : ∀ pT, tailV g n c2 = .slice pT n c2 → wpList Tryz.prog ops Q rest (a.put d (.slice pT n c2)) w) :
    wpList Tryz.prog ops Q ({ dst := d, op := .slice 92 (.tmp s) (some (.const (.int .i64 1))) none none, type := ty, pos := pos, after := af, guard := gd } :: rest) a w := by
  refine wpList_run hw (run_tail hc hx rfl) ?_
  exact h _ rfl
def Lead (s : Nat) (M : Nat → Nat → Int) (F : List Int) (M' : Nat → Nat → Int) : Prop :=
  F.length = s + 1 ∧ (∀ j, j < s + 1 → zth F j = M' 0 j) ∧ M' 0 0 ≠ 0 ∧ (M' = M ∨ ∃ i, i ≠ 0 ∧ i < s + 1 ∧ M' = add0 i M)
theorem sgn_zero (z : Int) : (sgn z != 0) = decide (z ≠ 0) := by
  unfold sgn
  split
  · rw [decide_eq_true (by omega)]; rfl
  · split
    · rename_i h; rw [decide_eq_false (by omega)]; rfl
    · rename_i h; rw [decide_eq_true h]; rfl
set_option maxHeartbeats 8000000 in
theorem leading_any {vr : Value} {L : List (List Int)} {b s k : Nat} {q : Int} {M : Nat → Nat → Int} {w : World} (hO : OwnR w b vr L) (hMat : Mat (s + 1) L M) (hSt : St q k M) (hk7 : k ≤ 7) (hs8 : s + 1 ≤ 8) :
    Calls Tryz.prog 45 #[vr] w fun r w' => Up w w' ∧
      ((∃ z F M', r = .returned (.tuple #[z, .bool true]) ∧ Wv w' z F ∧ Lead s M F M') ∨ (r = .returned (.tuple #[.slice none 0 0, .bool false]) ∧ ∀ i, i < s + 1 → M i 0 = 0)) := by
  obtain ⟨gR, cR, CR, rfl, hgR, hcR, hBR, hE⟩ := hO.open (by rw [hMat.1]; omega)
  rw [hMat.1] at hO hcR ⊢
  obtain ⟨c2, rfl⟩ : ∃ c2, cR = c2 + 1 := ⟨cR - 1, by omega⟩
  have hT := hO.tail hMat.1
  obtain ⟨sF, hsF, hWF, -⟩ := hE 0 (by rw [hMat.1]; omega)
  obtain ⟨hLF, hLFe⟩ := hMat.2 0 (by omega)
  obtain ⟨gF, cF, CF, hvF, hcF, hBF, htF⟩ := hWF.open (by rw [hLF]; omega)
  have HWv := hid (fun w' (hB : Blk w' gF 33 CF) => show Wv w' (.slice (some ⟨gF, 0, none⟩) (s + 1) cF) (L.getD 0 []) from .inr ⟨gF, cF, CF, by rw [hLF], hcF, hB, htF⟩)
  subst hvF
  rw [hLF] at hsF
  have HRng : Hid (∀ w', Blk w' gF 33 CF → w'.rangeAt gF 0 (wc (M 0 0))) := hid (fun w' hB => by
    have h := wv_range hB htF (i := 0) (by rw [hLF]; omega)
    rw [hLFe 0 (by omega), Nat.zero_mul] at h
    exact h)
  have hcx := hBR.cell 0 hsF
  have HSg := hid (fun i w => sign_z (few_inR (k := 5) (by omega) (hSt.entry hk7 i 0)) w)
  have HT := hid hT
  have HE := hid hE
  have HMat := hid hMat
  have HFew := hid (fun i => hMat.few hSt hk7 i)
  have hLe := hLFe
  have HLe := hid hLe
  have HLF := hid hLF
  unfold wideV at HSg
  clear hO hT hE hMat hSt hWF hLF hLFe htF hsF hLe hgR
  by_cases hp : M 0 0 = 0
  · have ds : (sgn (M 0 0) != 0) = false := by rw [sgn_zero]; exact decide_eq_false (by simpa using hp)
    obtain ⟨m0, hm0⟩ : ∃ y, M 0 0 = y := ⟨_, rfl⟩
    have HSg0 := hid (HSg.out 0)
    rw [hm0] at HRng HSg0 ds
    have HP := hid (hm0 ▸ hp : m0 = 0)
    have HM0 := hid hm0
    clear hm0 hp
    go_enter Tryz.func45, Tryz.ntmps45
    go_wp2_with (first
      | ((with_reducible apply ldW_P); exact rfl; exact rfl; exact HRng.out _ hBF)
      | ((with_reducible apply tail_P (n := s) (c2 := c2)); exact rfl; exact rfl; (focus omega); rintro pT hpT)
      | (go_at_call 47; (with_reducible refine (HSg0.out _).mono ?_); rintro r w1 ⟨rfl, hu1⟩))
    have HpT := hid hpT
    clear hpT
    go_loopg [19] s (fun g ti wr => ∃ j : Nat, j ≤ s ∧ s - j ≤ g ∧ ti = .int .i64 (j : Nat) ∧ (∀ i, i < j → M (i + 1) 0 = 0) ∧ Up w wr)
    case atStart => exact ⟨0, Nat.zero_le _, by omega, rfl, fun i hi => absurd hi (Nat.not_lt_zero _), hu1⟩
    case round =>
      clear hu1
      obtain ⟨j, hj, hjg, rfl, hz, hu⟩ := hrel
      by_cases hlt : j < s
      · have hTw := HT.out
        rw [HpT.out] at hTw
        have hdl : (L.drop 1).length = s := by rw [List.length_drop, HMat.out.1]; omega
        obtain ⟨g1, o1, c1, C1, hv1, -, hB1, hE1⟩ := hTw.open (by omega)
        injection hv1 with y1 y2 y3
        subst y1 y3
        obtain ⟨sE, hsE, hWE⟩ := hE1 j (by omega)
        have eD : (L.drop 1).getD j [] = L.getD (j + 1) [] := by rw [List.getD_eq_getElem?_getD, List.getD_eq_getElem?_getD, List.getElem?_drop, Nat.add_comm]
        rw [eD] at hWE
        obtain ⟨hLE, hLEe⟩ := HMat.out.2 (j + 1) (by omega)
        obtain ⟨gE, cE, CE, hvE, hcE, hBE, htE⟩ := hWE.open (by rw [hLE]; omega)
        have HWE := hid (fun w' (hB : Blk w' gE 33 CE) => show Wv w' (.slice (some ⟨gE, 0, none⟩) (s + 1) cE) (L.getD (j + 1) []) from .inr ⟨gE, cE, CE, by rw [hLE], hcE, hB, htE⟩)
        subst hvE
        rw [hLE] at hsE
        have HRE : Hid (∀ w', Blk w' gE 33 CE → w'.rangeAt gE 0 (wc (M (j + 1) 0))) := hid (fun w' hB => by
          have h := wv_range hB htE (i := 0) (by rw [hLE]; omega)
          rw [hLEe 0 (by omega), Nat.zero_mul] at h
          exact h)
        have hcy := (hB1.up hu).cell _ hsE
        have HSgj := hid (HSg.out (j + 1))
        have hBEr := hBE.up hu
        have HLEe := hid hLEe
        have HLE := hid hLE
        have e1 : IntKind.i64.wrap ((j : Int) + 1) = (j : Int) + 1 := IntWalk.i64_in _ (by omega)
        have HZ := hid hz
        clear hTw hE1 hsE hWE hLE hLEe htE eD hB1 hz y2 hcE
        obtain ⟨mj, hmj⟩ : ∃ y, M (j + 1) 0 = y := ⟨_, rfl⟩
        rw [hmj] at HRE HSgj
        have HMj := hid hmj
        clear hmj
        by_cases hpj : mj = 0
        · have dj : (sgn mj != 0) = false := by rw [sgn_zero]; exact decide_eq_false (by simpa using hpj)
          have hpj9 := hid hpj
          clear hpj
          go_wp2_with (first
            | ((with_reducible apply ldW_P); exact rfl; exact rfl; exact HRE.out _ hBEr)
            | (go_at_call 47; (with_reducible refine (HSgj.out _).mono ?_); rintro r w2 ⟨rfl, hu2⟩))
          go_roundg (s - (j + 1))
          case measure => omega
          case rel => exact ⟨j + 1, hlt, Nat.le_refl _, rfl, fun i hi => by
            rcases Nat.lt_succ_iff_lt_or_eq.1 hi with h | h
            · exact HZ.out i h
            · rw [h, HMj.out]; exact hpj9.out, hu.trans hu2⟩
        · have dj : (sgn mj != 0) = true := by rw [sgn_zero]; exact decide_eq_true hpj
          have HAD := hid (fun w' (hu' : Up wr w') => added_any (HWv.out w' (hBF.up (hu.trans hu'))) (HWE.out w' (hBEr.up hu')) (by rw [HLE.out, HLF.out]) (by rw [HLF.out]; omega) (by rw [HLF.out]; omega) (HFew.out 0) (HFew.out (j + 1)))
          have hpj9 := hid hpj
          clear hpj
          go_wp2_with (first
            | ((with_reducible apply ldW_P); exact rfl; exact rfl; exact HRE.out _ hBEr)
            | (go_at_call 47; (with_reducible refine (HSgj.out _).mono ?_); rintro r w2 ⟨rfl, hu2⟩)
            | (go_at_call 79; (with_reducible refine (HAD.out _ hu2).mono ?_); rintro r w3 ⟨z3, rfl, hu3, b3, hb3, hO3⟩))
          go_ret2
          have hat : ∀ c, c < s + 1 → zth (sumR (L.getD 0 []) (L.getD (j + 1) [])) c = add0 (j + 1) M 0 c := fun c hc => by
            unfold sumR
            rw [mk_at (by rw [HLF.out]; exact hc), HLe.out c hc, HLEe.out c hc]
            unfold add0 updR
            rw [if_pos rfl]
          refine ⟨(hu.trans hu2).trans hu3, .inl ⟨_, _, add0 (j + 1) M, rfl, hO3.wv, by show (mk _ _).length = _; rw [mk_len, HLF.out], hat, ?_, .inr ⟨j + 1, by omega, by omega, rfl⟩⟩⟩
          rw [← hat 0 (by omega)]
          unfold sumR
          rw [mk_at (by rw [HLF.out]; omega), HLe.out 0 (by omega), HLEe.out 0 (by omega), HM0.out, HMj.out, HP.out]
          have := hpj9.out
          omega
      · obtain rfl : j = s := by omega
        have HZ := hid hz
        clear hz
        go_wp2_with fail
        go_ret2
        refine ⟨hu, .inr ⟨rfl, fun i hi => ?_⟩⟩
        rcases i with _ | i
        · rw [HM0.out, HP.out]
        · exact HZ.out i (by omega)
  · have ds : (sgn (M 0 0) != 0) = true := by rw [sgn_zero]; exact decide_eq_true hp
    have HSg0 := hid (HSg.out 0)
    have HP := hid hp
    clear hp
    go_enter Tryz.func45, Tryz.ntmps45
    go_wp2_with (first
      | ((with_reducible apply ldW_P); exact rfl; exact rfl; exact HRng.out _ hBF)
      | (go_at_call 47; (with_reducible refine (HSg0.out _).mono ?_); rintro r w1 ⟨rfl, hu1⟩))
    go_ret2
    exact ⟨hu1, .inl ⟨_, _, M, rfl, HWv.out _ (hBF.up hu1), HLF.out, HLe.out, HP.out, .inl rfl⟩⟩
theorem bb2_bp {k : Nat} (h : k ≤ 7) : 2 * bb k 0 < bp 5 := by
  rw [bp5_is]
  rcases k with _ | _ | _ | _ | _ | _ | _ | _ | k
  · decide +kernel
  · decide +kernel
  · decide +kernel
  · decide +kernel
  · decide +kernel
  · decide +kernel
  · decide +kernel
  · decide +kernel
  · omega
theorem add0_zero (i : Nat) (M : Nat → Nat → Int) (r c : Nat) : add0 i M (r + 1) c = M (r + 1) c := by unfold add0 updR; rw [if_neg (by omega)]
theorem Lead.good {s k : Nat} {q : Int} {M M' : Nat → Nat → Int} {F : List Int} (h : Lead s M F M') (hs : St q k M) : Good q (fun r => 2 * bb k r) M' := by
  rcases h.2.2.2 with rfl | ⟨i, _, _, rfl⟩
  · exact hs.1.mono fun r => by omega
  · exact hs.1.add0 i
theorem Lead.next {s k : Nat} {q : Int} {M M' : Nat → Nat → Int} {F : List Int} (h : Lead s M F M') (hs : St q k M) (hk : k ≤ 7) : St (M' 0 0) (k + 1) (nxt q M') :=
  ⟨((h.good hs).next hs.2.1 h.2.2.1).mono fun r => by rw [bb_succ]; exact Nat.le_refl _, h.2.2.1, Nat.lt_of_le_of_lt ((h.good hs).entry 0 0) (bb2_bp hk)⟩
theorem Lead.few {s k : Nat} {q : Int} {M M' : Nat → Nat → Int} {F : List Int} (h : Lead s M F M') (hs : St q k M) (hk : k ≤ 7) : Few F := fun j => by
  by_cases hj : j < s + 1
  · rw [h.2.1 j hj]; exact Nat.lt_of_le_of_lt ((h.good hs).entry 0 j) (bb2_bp hk)
  · rw [zth_far (by rw [h.1]; omega)]; exact bp_pos 5
theorem Lead.full {s : Nat} {q D : Int} {M M' : Nat → Nat → Int} {F : List Int} (h : Lead s M F M') {k : Nat} (hs : St q k M) (hf : Full q (s + 1) M D) : Full (M' 0 0) s (nxt q M') D := by
  refine Full.next (h.good hs) hs.2.1 h.2.2.1 ?_
  rcases h.2.2.2 with rfl | ⟨i, h0, h1, rfl⟩
  · exact hf
  · exact hf.add0 (by omega) h0 h1
theorem Lead.mat {s : Nat} {q : Int} {M M' : Nat → Nat → Int} {F : List Int} {L : List (List Int)} (h : Lead s M F M') (hm : Mat (s + 1) L M) : Mat s ((L.drop 1).map fun R => tk F R q s) (nxt q M') := by
  have hl : (L.drop 1).length = s := by rw [List.length_drop, hm.1]; omega
  refine ⟨by rw [List.length_map, hl], fun i hi => ?_⟩
  have e : (((L.drop 1).map fun R => tk F R q s).getD i []) = tk F (L.getD (i + 1) []) q s := by
    rw [List.getD_eq_getElem?_getD, List.getElem?_map, List.getElem?_eq_getElem (by omega), List.getElem_drop]
    have : L.getD (i + 1) [] = L[1 + i]'(by rw [hm.1]; omega) := by
      rw [List.getD_eq_getElem?_getD, Nat.add_comm, List.getElem?_eq_getElem (by rw [hm.1]; omega)]
      rfl
    rw [this]
    rfl
  rw [e]
  have hr : ∀ r c, M (r + 1) c = M' (r + 1) c := fun r c => by
    rcases h.2.2.2 with rfl | ⟨i, _, _, rfl⟩
    · rfl
    · rw [add0_zero]
  refine ⟨mk_len _ _, fun j hj => ?_⟩
  unfold tk
  rw [mk_at hj, h.2.1 0 (by omega), h.2.1 (j + 1) (by omega), (hm.2 (i + 1) (by omega)).2 0 (by omega), (hm.2 (i + 1) (by omega)).2 (j + 1) (by omega), hr, hr]
  rfl
theorem ErrsE.setRow {w : World} {g : Nat} {C D : Array Value} {u : Value} {e : Int} (h : ErrsE w u e) (hB : Blk w g 33 C) : ErrsE (w.setRow g D) u e := by
  rcases h with h | ⟨h1, t, x, rfl, h2⟩
  · exact .inl h
  · refine .inr ⟨h1, t, x, rfl, ?_⟩
    obtain ⟨b, v, e1, e2, e3⟩ := h2
    refine ⟨b, v, e1, e2.row_other _ ?_, e3⟩
    rintro rfl
    unfold Blk at e2 hB
    rw [hB] at e2
    simp at e2
def detC (N : Int) (l : List Int) : Int := if rt N l then 0 else 23
def detV (N : Int) (l : List Int) : Int := if rt N l then det N.toNat (AM N.toNat l) else 0
set_option maxHeartbeats 8000000 in
theorem det_any {v : Value} {N : Int} {l : List Int} {w : World} (hm : Sm w v N l) :
    Calls Tryz.prog 10 #[v] w fun r w' => ∃ u, r = .returned (.tuple #[.agg (cells 16 (limb (enc (detV N l)))), u]) ∧ Up w w' ∧ ErrsE w' u (detC N l) := by
  have HR := hid (fun w' (hu : Up w w') => sright_any (hm.up hu))
  have HWR := hid (fun w => ewrong_any 23 (by decide) w)
  have HSm := hid hm
  obtain ⟨s, rfl, ⟨p, cap, rfl, -, -⟩, -, -, -⟩ := hm
  obtain ⟨W0, hW0⟩ : ∃ W0, (w.alloc (.cells #[.int .i64 N, .slice p l.length cap] 24)).alloc (.cells (cells 16 (fun _ => 0)) 33) = W0 := ⟨_, rfl⟩
  have hB : Blk W0 w.heap.size 24 #[.int .i64 N, .slice p l.length cap] := by rw [← hW0]; exact (Blk.new _ _ rfl).old _
  have hQ : Row W0 (w.heap.size + 1) 33 16 (fun _ => 0) := by rw [← hW0]; exact row_newc _ _ _ (by simp)
  have hU : Up w W0 := by rw [← hW0]; exact (Up.alloc _ _).trans (Up.alloc _ _)
  rw [← zeros16] at hW0
  cases hR : rt N l with
  | false =>
    have e : detC N l = 23 := by unfold detC; rw [hR]; rfl
    have e2 : detV N l = 0 := by unfold detV; rw [hR]; rfl
    rw [e, e2, ← zero_limb]
    rw [hR] at HR
    clear e e2 hR
    go_enter Tryz.func10, Tryz.ntmps10
    go_wp2_with (first
      | ((with_reducible apply ldM_P); exact rfl; exact rfl; exact hB; exact rfl)
      | (go_at_call 41; (with_reducible refine (HR.out _ hU).mono ?_); rintro r w1 ⟨rfl, hu1⟩; have hQ1 := hQ.up hu1)
      | (go_at_call 42; (with_reducible refine (HWR.out _).mono ?_); rintro r w2 ⟨u2, rfl, hu2, h2⟩; have hQ2 := hQ1.up hu2)
      | ((with_reducible apply st_rowP infoW); exact rfl; exact rfl; exact gRow) | ((with_reducible apply st_rowZ infoW); exact rfl; exact rfl; exact gRow))
    exact bodyPost_ret (res2 rfl undW infoW _ _ rfl (hQ2.setRow _)) rfl ⟨_, rfl, below_setRow ((hU.trans hu1).trans hu2) (by omega) _, h2.setRow hQ2⟩
  | true =>
    rw [hR] at HR
    obtain ⟨n0, n8, _, _⟩ := rt_spec hR
    obtain ⟨n, rfl⟩ : ∃ n : Nat, N = (n : Int) := ⟨N.toNat, by omega⟩
    have e : detC n l = 0 := by unfold detC; rw [hR]; rfl
    have e2 : detV n l = det n (AM n l) := by unfold detV; rw [hR, if_pos rfl]; rfl
    rw [e, e2]
    have HSQ := hid (fun w' (hu : Up w w') => square_any (HSm.out.up hu) hR)
    have HSt := hid (St.start hR)
    have HMt := hid (Mat.start n l)
    have HFu := hid (Full.start n (AM n l))
    have HO1 := hid (fun w => of_any 1 (by decide) (by decide) w)
    have hn8 : n ≤ 8 := by omega
    obtain ⟨D, hD⟩ : ∃ D, det n (AM n l) = D := ⟨_, rfl⟩
    rw [hD] at HFu ⊢
    clear e e2 hR n0 n8 hD
    unfold wideV at *
    go_enter Tryz.func10, Tryz.ntmps10
    go_wp2_with (first
      | ((with_reducible apply ldM_P); exact rfl; exact rfl; (first | exact hB | exact hB3); exact rfl)
      | (go_at_call 41; (with_reducible refine (HR.out _ hU).mono ?_); rintro r w1 ⟨rfl, hu1⟩; replace hB := hB.up hu1; replace hQ := hQ.up hu1; replace hU := hU.trans hu1)
      | (go_at_call 43; (with_reducible refine (HO1.out _).mono ?_); rintro r w2 ⟨rfl, hu2⟩; have hsz1 := hQ.lt; have hsz2 := hu2.size)
      | ((with_reducible apply st_rowP infoW); exact rfl; exact rfl; exact row_newz _ rfl
         refine wpL_folded (fun wd => Up w2 wd ∧ Row wd w2.heap.size 33 16 (limb (enc 1))) ⟨gUp, gRow⟩ ?_
         rintro wL ⟨hXL, hLast⟩
         have hU2 := (hU.trans hu2).trans hXL
         have hB3 := (hB.up hu2).up hXL
         have hQ3 := (hQ.up hu2).up hXL)
      | (go_at_call 44; (with_reducible refine (HSQ.out _ hU2).mono ?_); rintro r w3 ⟨z3, rfl, hu3, b3, hb3, hO3⟩; have hLast3 := hLast.up hu3; have hU3 := hU2.trans hu3; have hlt2 := hLast.lt; have hQ4 := hQ3.up hu3))
    obtain ⟨pz, cz, rfl⟩ := hO3.slice
    obtain ⟨bL, hbL⟩ : ∃ y, w2.heap.size = y := ⟨_, rfl⟩
    rw [hbL] at hLast3 hlt2 ⊢
    have hwbL : w.heap.size + 1 < bL := by omega
    have hInv : ∃ (k s : Nat) (q : Int) (M : Nat → Nat → Int) (L : List (List Int)) (bR : Nat), s + k = n ∧ Mat s L M ∧ St q k M ∧ Full q s M D ∧ OwnR w3 bR (.slice pz (sqE n l).length cz) L ∧ bL < bR ∧
        Row w3 bL 33 16 (limb (enc q)) ∧ Row w3 (w.heap.size + 1) 33 16 (fun _ => 0) ∧ Up w w3 :=
      ⟨0, n, 1, AM n l, sqE n l, b3, by omega, HMt.out, HSt.out, HFu.out, hO3, by omega, hLast3, hQ4, hU3⟩
    clear hO3 hLast3 hlt2 hb3 hu3 hU3 hU2 hB hB3 hU hu2 hu1 hXL hLast hW0 HSt HMt HFu hbL hsz1 hsz2 HSQ HO1 HR HWR hQ hQ3 hQ4
    go_loopg [5] (n + 1) (fun g tr wr => ∃ (k s : Nat) (q : Int) (M : Nat → Nat → Int) (L : List (List Int)) (bR : Nat), s ≤ g ∧ s + k = n ∧ Mat s L M ∧ St q k M ∧ Full q s M D ∧ OwnR wr bR tr L ∧ bL < bR ∧
        Row wr bL 33 16 (limb (enc q)) ∧ Row wr (w.heap.size + 1) 33 16 (fun _ => 0) ∧ Up w wr)
    case atStart =>
      obtain ⟨k, s, q, M, L, bR, h1, h2⟩ := hInv
      exact ⟨k, s, q, M, L, bR, by omega, h1, h2⟩
    case round =>
      clear hInv
      obtain ⟨k, s, q, M, L, bR, hsg, hsk, hMat, hSt, hFu, hO, hbR, hRow, hQ, hu⟩ := hrel
      obtain ⟨pr, cr, rfl⟩ := hO.slice
      rw [hMat.1]
      rcases s with _ | s
      · obtain rfl := hFu.zero
        clear hFu hSt
        go_wp2_with (first | ((with_reducible apply ld_rowP undW infoW); exact rfl; exact rfl; exact gRow) | ((with_reducible apply st_rowP infoW); exact rfl; exact rfl; exact gRow) | ((with_reducible apply st_rowZ infoW); exact rfl; exact rfl; exact gRow))
        exact bodyPost_ret (res2 rfl undW infoW _ _ rfl (hQ.setRow _)) rfl ⟨_, rfl, below_setRow hu (by omega) _, .inl ⟨rfl, rfl⟩⟩
      · have hk7 : k ≤ 7 := by omega
        obtain ⟨gR, cR, CR, hv, hgR, hcR, -, -⟩ := hO.open (by rw [hMat.1]; omega)
        injection hv with x1 x2 x3
        subst x1 x3
        rw [hMat.1] at hcR hO
        obtain ⟨c2, rfl⟩ : ∃ c2, cr = c2 + 1 := ⟨cr - 1, by omega⟩
        have HLD := hid (leading_any hO hMat hSt hk7 (by omega))
        have HO := hid hO
        have HMat := hid hMat
        have HSt := hid hSt
        have HFu := hid hFu
        clear hO hMat hSt hFu x2
        go_wp2_with (first
          | (go_at_call 45; (with_reducible refine HLD.out.mono ?_); rintro r w5 ⟨hu5, hcase⟩; have hQ5 := hQ.up hu5; rcases hcase with ⟨z5, F, M', rfl, hWF, hLd⟩ | ⟨rfl, hz⟩)
          | ((with_reducible apply st_rowP infoW); exact rfl; exact rfl; exact gRow) | ((with_reducible apply st_rowZ infoW); exact rfl; exact rfl; exact gRow))
        · obtain ⟨gF, cF, CF, rfl, hcF, hBF, htF⟩ := hWF.open (by rw [hLd.1]; omega)
          rw [hLd.1]
          have HWv := hid (fun w' (hB : Blk w' gF 33 CF) => show Wv w' (.slice (some ⟨gF, 0, none⟩) (s + 1) cF) F from .inr ⟨gF, cF, CF, by rw [hLd.1], hcF, hB, htF⟩)
          have HRng : Hid (∀ w', Blk w' gF 33 CF → w'.rangeAt gF 0 (wc (M' 0 0))) := hid (fun w' hB => by
            have h := wv_range hB htF (i := 0) (by rw [hLd.1]; omega)
            rw [hLd.2.1 0 (by omega), Nat.zero_mul] at h
            exact h)
          have HLd := hid hLd
          have hRow7 := hRow.up hu5
          have hOR7 := HO.out.up hu5
          have hU7 := hu.trans hu5
          obtain ⟨NX, hNX⟩ : ∃ y, ((L.drop 1).map fun R => tk F R q s) = y := ⟨_, rfl⟩
          have HNX := hid hNX
          have HFW : Hid (∀ w', Up w5 w' → Calls Tryz.prog 46 #[.slice (some ⟨gF, 0, none⟩) (s + 1) cF, tailV gR s c2, .agg (cells 16 (limb (enc q)))] w' (fun e w'' => Up w' w'' ∧ ∃ v, e = .returned v ∧ (fun v w'' => ∃ b, w5.heap.size ≤ b ∧ OwnR w'' b v NX) v w'')) := hid (fun w' hu' => by
            have hf := fewer_any (q := q) (n := s) (HWv.out w' (hBF.up hu')) ((hOR7.up hu').tail HMat.out.1) hLd.1 HMat.out.rest (by omega) (by rw [List.length_drop, HMat.out.1]; omega) (hLd.few HSt.out hk7) (fun i => by rw [show (L.drop 1).getD i [] = L.getD (i + 1) [] from by rw [List.getD_eq_getElem?_getD, List.getD_eq_getElem?_getD, List.getElem?_drop, Nat.add_comm]]; exact HMat.out.few HSt.out hk7 (i + 1)) HSt.out.2.2 HSt.out.2.1
            unfold wideV at hf
            rw [hNX] at hf
            refine hf.mono fun _ _ h => ?_
            obtain ⟨z, rfl, hu, b, hb, hO⟩ := h
            exact ⟨hu, z, rfl, b, Nat.le_trans hu'.size hb, hO⟩)
          clear hNX hWF htF hLd hcF
          obtain ⟨m0, hm0⟩ : ∃ y, M' 0 0 = y := ⟨_, rfl⟩
          rw [hm0] at HRng
          have HM0 := hid hm0
          clear hm0
          go_wp2_with fail
          refine opU (S := (fun wq => Up w5 wq ∧ Below w.heap.size w wq)) (req := (fun j => j != 9)) (fun _ _ h hu => ⟨(h.1).trans hu, below_up (h.2) hu⟩) ⟨(by first | exact Up.refl _ | assumption), gUp⟩ (fun wS hSS hSu => ?_)
          have ⟨hS1, hSB⟩ := hSS
          refine tkP 0 (some 27) hSu ?_
          refine tkP 1 (some 28) hSu ?_
          refine tkO 2 (some 29) rfl hSu ?_ (hy := fun w' => run_tail (by omega) rfl rfl)
          refine tkT 3 (some 30) rfl hSu hSS ?_ (hy := fun w' hSw => run_ld undW infoW _ rfl _ rfl (hRow7.up hSw.1))
          refine tkP 5 (some 32) hSu ?_
          refine tkP 6 (some 33) hSu ?_
          refine tkT 7 (some 34) rfl hSu hSS ?_ (hy := fun w' hSw => run_ldW rfl rfl (HRng.out _ (hBF.up hSw.1)))
          refine wpAnyU_callE (i := 4) (d := (some 31)) rfl rfl (by kernel_rfl) (by rfl) hSu.out (fun w' => by go_simp) (fun w' hw' => (HFW.out w' (hS1.trans hw'))) fun vG wG hwG hRG => ?_
          try simp only [Act.put, pu1, pu2, pu3]
          obtain ⟨bN, hbN, hON⟩ := hRG
          obtain ⟨pN, cN, rfl⟩ := hON.slice
          refine tkP 8 (some 5) hSu ?_
          refine wpAnyU_one (i := 9) rfl (by kernel_rfl) (by rfl) fun wX hwX => ?_
          refine wp_st_rowN infoW rfl _ _ rfl _ rfl rfl ((hRow7.up ((hS1.trans hwG).trans hwX))) ?_
          refine ⟨fun h => by simp at h, ?_⟩
          try simp only [Act.put, pu1, pu2, pu3]
          refine wpAnyU_done (by kernel_rfl) (fun wF huE => ?_) _
          have hUG := (hS1.trans hwG).trans hwX
          have hltb := hRow7.lt
          have gRow := ((hRow7.up hUG).setRow (limb (enc m0))).up huE
          have gO := ((hON.up hwX).below (show bL < bN by omega) (cells 16 (limb (enc m0)))).up huE
          have gU := Up.trans (below_setRow (hU7.trans hUG) (show w.heap.size ≤ bL by omega) (cells 16 (limb (enc m0)))) huE
          have gQ := ((hQ5.up hUG).row_other (cells 16 (limb (enc m0))) (show w.heap.size + 1 ≠ bL by omega)).up huE
          have gM : Mat s NX (nxt q M') := HNX.out ▸ HLd.out.mat HMat.out
          have gS : St m0 (k + 1) (nxt q M') := HM0.out ▸ HLd.out.next HSt.out hk7
          have gF : Full m0 s (nxt q M') D := HM0.out ▸ HLd.out.full HSt.out HFu.out
          clear hS1 hSB hSS hwG hwX huE hON hUG
          go_wp2_with fail
          go_roundg s
          case measure => omega
          case rel => exact ⟨k + 1, s, m0, nxt q M', NX, bN, Nat.le_refl _, by omega, gM, gS, gF, gO, by omega, gRow, gQ, gU⟩
        · have hD0 : D = 0 := HFu.out.nil HSt.out.2.1 hz
          rw [hD0, ← zero_limb]
          exact bodyPost_ret (res2 rfl undW infoW _ _ rfl (hQ5.setRow _)) rfl ⟨_, rfl, below_setRow (hu.trans hu5) (by omega) _, .inl ⟨rfl, rfl⟩⟩
def dfV (N : Int) (l : List Int) : Bool := (mnR N l).all (fun x => decide (0 < x)) && rt N l
theorem mnR_few {N : Int} {l : List Int} : ∀ i, i < (mnR N l).length → (zth (mnR N l) i).natAbs < bp 5 := by
  unfold mnR
  cases hR : rt N l with
  | false => intro i hi; exact absurd hi (Nat.not_lt_zero _)
  | true =>
    obtain ⟨n0, n8, _, _⟩ := rt_spec hR
    obtain ⟨n, rfl⟩ : ∃ n : Nat, N = (n : Int) := ⟨N.toNat, by omega⟩
    rw [if_pos rfl]
    have key : ∀ s k q M, s + k ≤ 8 → St q k M → ∀ i, i < (mins s q M).length → (zth (mins s q M) i).natAbs < bp 5 := by
      intro s
      induction s with
      | zero => intro k q M _ _ i hi; exact absurd hi (Nat.not_lt_zero _)
      | succ s ih =>
        intro k q M hk hs i hi
        have e : mins (s + 1) q M = M 0 0 :: (if 0 < M 0 0 then mins s (M 0 0) (nxt q M) else []) := rfl
        rw [e] at hi ⊢
        rcases i with _ | i
        · exact hs.entry (by omega) 0 0
        · by_cases hp : 0 < M 0 0
          · rw [if_pos hp] at hi ⊢
            exact ih (k + 1) _ _ (by omega) (hs.next (by omega) (by omega)) i (by simpa using hi)
          · rw [if_neg hp] at hi; simp at hi
    exact key n 0 1 _ (by omega) (by rw [show ((n : Int)).toNat = n by omega]; exact St.start hR)
theorem mnR_len {N : Int} {l : List Int} : (mnR N l).length ≤ 8 := by
  unfold mnR
  cases hR : rt N l with
  | false => simp
  | true =>
    obtain ⟨n0, n8, _, _⟩ := rt_spec hR
    rw [if_pos rfl]
    have := mins_len N.toNat 1 (AM N.toNat l)
    omega
set_option maxHeartbeats 8000000 in
theorem definite_any {v : Value} {N : Int} {l : List Int} {w : World} (hm : Sm w v N l) :
    Calls Tryz.prog 14 #[v] w fun r w' => r = .returned (.bool (dfV N l)) ∧ Up w w' := by
  have HMI := hid (fun w' (hu : Up w w') => minors_any (hm.up hu))
  obtain ⟨s, rfl, ⟨p, cap, rfl, -, -⟩, -, -, -⟩ := hm
  obtain ⟨W0, hW0⟩ : ∃ W0, w.alloc (.cells #[.int .i64 N, .slice p l.length cap] 24) = W0 := ⟨_, rfl⟩
  have hB : Blk W0 w.heap.size 24 #[.int .i64 N, .slice p l.length cap] := by rw [← hW0]; exact Blk.new _ _ rfl
  have hU : Up w W0 := by rw [← hW0]; exact Up.alloc _ _
  have HF := hid (mnR_few (N := N) (l := l))
  have HLn := hid (mnR_len (N := N) (l := l))
  obtain ⟨T, hT⟩ : ∃ T, mnR N l = T := ⟨_, rfl⟩
  obtain ⟨C, hC⟩ : ∃ C, mnC N l = C := ⟨_, rfl⟩
  obtain ⟨o, ho⟩ : ∃ o, dfV N l = o := ⟨_, rfl⟩
  have HOo : Hid (o = (T.all (fun x => decide (0 < x)) && decide (C = 0))) := hid (by
    rw [← ho, ← hT, ← hC]
    unfold dfV mnC
    cases rt N l <;> simp)
  rw [hT] at HMI HF HLn
  rw [hC] at HMI
  rw [ho]
  clear hT hC ho
  go_enter Tryz.func14, Tryz.ntmps14
  go_wp2_with (first
    | ((with_reducible apply ldM_P); exact rfl; exact rfl; exact hB; exact rfl)
    | (go_at_call 11; (with_reducible refine (HMI.out _ hU).mono ?_); rintro r w1 ⟨z1, u1, rfl, hu1, hW1, he1⟩; obtain ⟨p1, c1, rfl⟩ := hW1.slice))
  have hU1 := hU.trans hu1
  clear hW0 hu1 hB hU HMI
  go_loopg [14] (T.length + 1) (fun g ti wr => ∃ i : Nat, i ≤ T.length ∧ T.length - i ≤ g ∧ ti = .int .i64 (i : Nat) ∧ (∀ j, j < i → 0 < zth T j) ∧ Up w1 wr)
  case atStart => exact ⟨0, Nat.zero_le _, by omega, rfl, fun j hj => absurd hj (Nat.not_lt_zero _), Up.refl _⟩
  case round =>
    obtain ⟨i, hi, hig, rfl, hpos, hu⟩ := hrel
    have HPo := hid hpos
    clear hpos
    by_cases hlt : i < T.length
    · obtain ⟨g1, c9, C1, hv, hc9, hB1, ht1⟩ := hW1.open (by omega)
      injection hv with x1 x2 x3
      subst x1 x3
      have HR1 := hid (fun w' (hB : Blk w' g1 33 C1) => wv_range hB ht1 hlt)
      have HSg := hid (fun w => sign_z (few_inR (k := 5) (by omega) (HF.out i hlt)) w)
      have hBr := hB1.up hu
      have e1 : IntKind.i64.wrap ((i : Int) + 1) = (i : Int) + 1 := IntWalk.i64_in _ (by have := HLn.out; omega)
      unfold wideV at HSg
      clear ht1 x2 hc9
      obtain ⟨z, hz⟩ : ∃ z, zth T i = z := ⟨_, rfl⟩
      rw [hz] at HR1 HSg
      have HZ := hid hz
      clear hz
      by_cases hp : 0 < z
      · have ds : decide (sgn z ≤ 0) = false := by unfold sgn; rw [decide_eq_false]; split <;> (try split) <;> omega
        have HP := hid hp
        clear hp
        go_wp2_with (first
          | ((with_reducible apply ldW_P); exact rfl; exact rfl; exact HR1.out _ hBr)
          | ((with_reducible apply ld_rowP undW infoW); exact rfl; exact rfl; exact gRow)
          | ((with_reducible apply st_rowP infoW); exact rfl; exact rfl; exact row_newz _ rfl
             refine wpL_folded (fun wd => Up wr wd ∧ Row wd wr.heap.size 33 16 (limb (enc z))) ⟨gUp, gRow⟩ ?_
             rintro wL ⟨hXL, hRL⟩)
          | (go_at_call 47; (with_reducible refine (HSg.out _).mono ?_); rintro r w3 ⟨rfl, hu3⟩))
        go_roundg (T.length - (i + 1))
        case measure => omega
        case rel => exact ⟨i + 1, hlt, Nat.le_refl _, rfl, fun j hj => by
          rcases Nat.lt_succ_iff_lt_or_eq.1 hj with h | h
          · exact HPo.out j h
          · rw [h, HZ.out]; exact HP.out, hu.trans (hXL.trans hu3)⟩
      · have ds : decide (sgn z ≤ 0) = true := by unfold sgn; rw [decide_eq_true]; split <;> (try split) <;> omega
        have HP := hid hp
        clear hp
        go_wp2_with (first
          | ((with_reducible apply ldW_P); exact rfl; exact rfl; exact HR1.out _ hBr)
          | ((with_reducible apply ld_rowP undW infoW); exact rfl; exact rfl; exact gRow)
          | ((with_reducible apply st_rowP infoW); exact rfl; exact rfl; exact row_newz _ rfl
             refine wpL_folded (fun wd => Up wr wd ∧ Row wd wr.heap.size 33 16 (limb (enc z))) ⟨gUp, gRow⟩ ?_
             rintro wL ⟨hXL, hRL⟩)
          | (go_at_call 47; (with_reducible refine (HSg.out _).mono ?_); rintro r w3 ⟨rfl, hu3⟩))
        go_ret
        have ho : o = false := by
          rw [HOo.out, Bool.and_eq_false_iff]
          refine .inl (List.all_eq_false.2 ⟨z, ?_, by have := HP.out; simpa using this⟩)
          rw [← HZ.out, zth_get hlt]
          exact List.getElem_mem _
        exact ⟨by rw [ho]; rfl, hU1.trans (hu.trans (hXL.trans hu3))⟩
    · obtain rfl : i = T.length := by omega
      have hall : T.all (fun x => decide (0 < x)) = true := List.all_eq_true.2 fun x hx => by
        obtain ⟨j, hj, rfl⟩ := List.mem_iff_getElem.1 hx
        have := HPo.out j hj
        rw [zth_get hj] at this
        exact decide_eq_true this
      have hoo := HOo.out
      rw [hall, Bool.true_and] at hoo
      have HOO := hid hoo
      clear hoo hall
      rcases he1 with ⟨h0, rfl⟩ | ⟨h0, t, x, rfl, -⟩
      · have HO2 : Hid (o = true) := hid (by rw [HOO.out]; exact decide_eq_true h0)
        clear h0
        go_wp2_with fail
        go_ret
        exact ⟨by rw [HO2.out]; rfl, hU1.trans hu⟩
      · have HO2 : Hid (o = false) := hid (by rw [HOO.out]; exact decide_eq_false h0)
        clear h0
        go_wp2_with fail
        go_ret
        exact ⟨by rw [HO2.out]; rfl, hU1.trans hu⟩
theorem esays_any {u : Value} {e : Int} {w : World} (h : ErrsE w u e) (hg : Glob w) :
    Calls Tryz.prog 13 #[u, .int .i64 e] w fun r w' => r = .returned (.bool true) ∧ Up w w' := by
  rcases h with ⟨rfl, rfl⟩ | ⟨h0, t, x, rfl, hE⟩
  · go_enter Tryz.func13, Tryz.ntmps13
    go_wp2_with fail
    go_ret
    exact ⟨rfl, Up.refl _⟩
  · have d : (e == 0) = false := by simpa using h0
    have HO := hid (fun w' (hu : Up w w') => ops_any (hE.up hu) (show 1 < 1000000 by decide))
    have HC := hid (fun w' (hu : Up w w') => code_any (hE.up hu) (hg.up hu))
    have de : (e == e) = true := by simp
    have dB : (elimB.toList == [101, 108, 105, 109]) = true := by rw [show elimB.toList = [101, 108, 105, 109] from by rw [ByteArray.toList_eq]; rfl]; rfl
    clear hE hg h0
    go_enter Tryz.func13, Tryz.ntmps13
    go_wp2_with (first
      | (go_at_call 48; (with_reducible refine (HO.out _ (Up.refl _)).mono ?_); rintro r w1 ⟨s, rfl, hu1, hs⟩; obtain ⟨g, cap, C, rfl, hB, h0⟩ := own_one hs)
      | (go_at_call 49; (with_reducible refine (HC.out _ hu1).mono ?_); rintro r w2 ⟨rfl, hu2⟩; have hc := (hB.up hu2).cell 0 h0; have de2 : ((Er.flt elimB (.num e)).first.getD 36 == e) = true := by (show (e == e) = true; simp)))
    go_ret
    exact ⟨rfl, hu1.trans hu2⟩
def prd (v : Nat → Int) : Nat → Int
  | 0 => 1
  | k + 1 => prd v k * v k
def dgA (v : Nat → Int) (k : Nat) : Nat → Nat → Int := fun i j => if i = j ∧ i < k then v i else 0
theorem prd_head (v : Nat → Int) : ∀ n, prd v (n + 1) = v 0 * prd (fun i => v (i + 1)) n := by
  intro n
  induction n with
  | zero => show 1 * v 0 = v 0 * 1; omega
  | succ n ih =>
    show prd v (n + 1) * v (n + 1) = v 0 * (prd (fun i => v (i + 1)) n * v (n + 1))
    rw [ih, Int.mul_assoc]
theorem det_dg : ∀ (n : Nat) (v : Nat → Int), det n (dgA v n) = prd v n := by
  intro n
  induction n with
  | zero => intro v; rfl
  | succ n ih =>
    intro v
    rw [prd_head, ← ih]
    show sumN (n + 1) (fun i => sg i * dgA v (n + 1) i 0 * det n fun r c => dgA v (n + 1) (sk i r) (c + 1)) = _
    rw [sumN_one (p := 0) (by omega) fun i hi h0 => by
      have : dgA v (n + 1) i 0 = 0 := by unfold dgA; rw [if_neg (by omega)]
      rw [this, Int.mul_zero, Int.zero_mul]]
    have e1 : dgA v (n + 1) 0 0 = v 0 := by unfold dgA; rw [if_pos ⟨rfl, by omega⟩]
    have e2 : sg 0 = 1 := rfl
    rw [e1, e2, Int.one_mul]
    refine congrArg _ (det_congr fun r c hr hc => ?_)
    unfold dgA sk
    rw [if_neg (Nat.not_lt_zero r)]
    by_cases h : r = c
    · rw [if_pos ⟨by omega, by omega⟩, if_pos ⟨h, hr⟩]
    · rw [if_neg (by omega), if_neg (by omega)]
def Dg (n : Nat) (v : Nat → Int) (k : Nat) (l : List Int) : Prop := rt n l = true ∧ ∀ i j, i < n → j < n → ent n l i j = dgA v k i j
theorem Dg.det {n : Nat} {v : Nat → Int} {l : List Int} (h : Dg n v n l) : detV n l = prd v n ∧ detC n l = 0 := by
  refine ⟨?_, by unfold detC; rw [h.1]; rfl⟩
  unfold detV
  rw [h.1, if_pos rfl, ← det_dg]
  exact det_congr fun i j hi hj => (AM_at hi hj).trans (h.2 i j hi hj)
theorem dfV_pd {n : Nat} {l : List Int} (h : rt n l = true) : dfV n l = true ↔ PD n (AM n l) := by
  unfold dfV mnR
  rw [h, if_pos rfl, Bool.and_true, List.all_eq_true]
  refine Iff.trans ?_ (pd_mins (n := n) (q := 1) (by decide) (Good.start fun i j => AM_abs h i j) (AM_symm n l)).symm
  exact ⟨fun h x hx => of_decide_eq_true (h x hx), fun h x hx => decide_eq_true (h x hx)⟩
def e0 : Nat → Int := fun c => if c = 0 then 1 else 0
def one0 (A : Nat → Nat → Int) : Nat → Nat → Int := updR A 0 fun c => 1 * A 0 c + (1 - A 0 0) * e0 c
def exch (a b i : Nat) : Nat := if i = a then b else if i = b then a else i
theorem exch_lt {a b n i : Nat} (ha : a < n) (hb : b < n) (hi : i < n) : exch a b i < n := by unfold exch; split <;> (try split) <;> omega
theorem exch_back (a b i : Nat) : exch a b (exch a b i) = i := by
  unfold exch
  by_cases h1 : i = a
  · rw [if_pos h1]
    by_cases h2 : b = a
    · rw [if_pos h2]; omega
    · rw [if_neg h2, if_pos rfl]; omega
  · rw [if_neg h1]
    by_cases h2 : i = b
    · rw [if_pos h2, if_pos rfl]; omega
    · rw [if_neg h2, if_neg h1, if_neg h2]
def prodN : Nat → (Nat → Nat) → Nat
  | 0, _ => 1
  | n + 1, f => f 0 * prodN n fun i => f (i + 1)
def cb (n j : Nat) : Nat := if j = n then 72057594037927936 else 1073741824
def AV (n : Nat) (l v : List Int) : Nat → Nat → Int := fun i j =>
  if i < n then (if j < n then ent n l i j else if j = n then zth v i else 0) else if i = j + n then -1 else 0
def bv (k r : Nat) : Nat := fct (r + k + 1) * (1073741824 ^ (r + k) * 72057594037927936)
def SV (q : Int) (k : Nat) (M : Nat → Nat → Int) : Prop := Good q (bv k) M ∧ 0 < q ∧ q.natAbs < bp 5
def gs (A : Nat → Nat → Int) : Nat → Int × (Nat → Nat → Int)
  | 0 => (1, A)
  | k + 1 => ((gs A k).2 0 0, nxt (gs A k).1 (gs A k).2)
structure Def (n : Nat) (l v : List Int) : Prop where
  right : rt n l = true
  pos : ∀ x ∈ mins n 1 (AM n l), 0 < x
  vec : ∀ i, (zth v i).natAbs ≤ 72057594037927936
def slX (n : Nat) (l v : List Int) (i : Nat) : Int := (gs (AV n l v) n).2 i 0
def slD (n : Nat) (l : List Int) : Int := det n (AM n l)
def Win (n s : Nat) (L : List (List Int)) (M : Nat → Nat → Int) : Prop := L.length = n ∧ ∀ i, i < n → (L.getD i []).length = s + 1 ∧ ∀ j, j < s + 1 → zth (L.getD i []) j = M i j
def turn (q : Int) (s : Nat) (L : List (List Int)) : List (List Int) := ((L.drop 1).map fun R => tk (L.getD 0 []) R q (s + 1)) ++ [(L.getD 0 []).drop 1]
def zz (n : Nat) (l v : List Int) (c : Nat) : Int := if c < n then slX n l v c else -(slD n l)
theorem ent_turn (n : Nat) (l : List Int) (i j : Nat) : ent n l i j = ent n l j i := by unfold ent; rw [idx_turn]
def Run (B n : Nat) (A : Nat → Nat → Int) : Prop := ∀ k, k < n → (∀ j, j < k → 0 < (gs A j).2 0 0) → 0 < (gs A k).1 ∧ (gs A k).1.natAbs < bp B ∧ ∀ i j, ((gs A k).2 i j).natAbs < bp B
theorem run_AM {n : Nat} {l : List Int} (hR : rt n l = true) : Run 5 n (AM n l) := by
  have h8 := (rt_spec hR).2.1
  have h : ∀ k, k < n → (∀ j, j < k → 0 < (gs (AM n l) j).2 0 0) → 0 < (gs (AM n l) k).1 ∧ St (gs (AM n l) k).1 k (gs (AM n l) k).2 := by
    intro k
    induction k with
    | zero => intro _ _; exact ⟨by show (0 : Int) < 1; decide, St.start hR⟩
    | succ k ih =>
      intro hk hp
      have h1 := ih (by omega) fun j hj => hp j (by omega)
      have h2 := hp k (by omega)
      exact ⟨h2, h1.2.next (by omega) (Int.ne_of_gt h2)⟩
  exact fun k hk hp => ⟨(h k hk hp).1, (h k hk hp).2.2.2, (h k hk hp).2.entry (by omega)⟩
theorem mins_succ (s : Nat) (q : Int) (M : Nat → Nat → Int) : mins (s + 1) q M = M 0 0 :: (if 0 < M 0 0 then mins s (M 0 0) (nxt q M) else []) := rfl
def Left (n k : Nat) (M V : Nat → Nat → Int) : Prop := ∀ r c, k ≤ r → r < n → k ≤ c → c < n → V r c = M (r - k) (c - k)
theorem Left.start {n : Nat} {A V : Nat → Nat → Int} (h : ∀ i j, i < n → j < n → V i j = A i j) : Left n 0 A V := fun r c _ h2 _ h4 => h r c h2 h4
theorem MI.app {w : World} {base bP bO n : Nat} {av : Value} {G : Nat → Nat} {b0 : Bool} {p0 : Option Addr} {n0 c0 : Nat} {q z : Int} {tv : Value} {L : List Int} {V : Nat → Nat → Int} {wr w' : World} {v' : Value} (h : MI w base bP bO n av G b0 p0 n0 c0 q tv L V wr) (hG : ∀ q, q < n → G q < bP) (hPO : bP < bO) (hb : base ≤ bO)
    (hO : OwnB w' bO v' (L ++ [z])) (hg : wr.grownBy w' tv.ownBlock) (hB : Below bO wr w') : MI w base bP bO n av G b0 p0 n0 c0 q v' (L ++ [z]) V w' :=
  ⟨h.m.grownB hg fun k hk => ⟨(h.l.blk k hk).2.2, fun i hi => by have h1 := (h.l.blk k hk).1; have h2 := hG i hi; omega⟩, Blk.below h.p hB hPO, h.q.grown hg fun k hk => (h.l.blk k hk).2.2, hO, Below.trans h.u (Below.mono hB hb)⟩
theorem MI.prev {w : World} {base bP bO n : Nat} {av : Value} {G : Nat → Nat} {b0 b : Bool} {p0 p : Option Addr} {n0 c0 m c : Nat} {q z : Int} {tv : Value} {L : List Int} {V : Nat → Nat → Int} {wr : World} (h : MI w base bP bO n av G b0 p0 n0 c0 q tv L V wr) (hG : ∀ q, q < n → G q < bP) (hPO : bP < bO) (hb : base ≤ bP)
    (hz : Big wr (.agg #[.bool b, .slice p m c]) z) : MI w base bP bO n av G b p m c z tv L V (wr.setRow bP #[.bool b, .slice p m c]) :=
  ⟨h.m.otherB h.p _ fun i hi => by have h2 := hG i hi; omega, h.p.setRow _, hz.setRow h.p, h.l.lower h.p _ hPO, below_setRow h.u hb _⟩
set_option maxHeartbeats 16000000 in
theorem rminors_any {w : World} {base n B : Nat} {av : Value} {G : Nat → Nat} {V : Nat → Nat → Int} (h : OwnM w base av n n G V) (hn : n ≤ 8) (hB : B ≤ 100) (hR : Run B n V) (hb : base ≤ w.heap.size) :
    Calls Tryz.prog 55 #[av] w fun r w' => ∃ z, r = .returned z ∧ Below base w w' ∧ Bv w' z (mins n 1 V) := by
  obtain ⟨pA, cA, rfl⟩ := h.slice
  have HO1 := hid (fun w => of_big 1 (by decide) (by decide) w)
  have HGl := hid (fun q (hq : q < n) => show G q < w.heap.size from by obtain ⟨_, _, _, h3, _⟩ := h; exact (h3 q hq).2.lt)
  have HR := hid hR
  obtain ⟨T, hT⟩ : ∃ T, mins n 1 V = T := ⟨_, rfl⟩
  have HT := hid hT
  rw [hT]
  have HM := hid h
  clear hT hR h
  go_enter Tryz.func55, Tryz.ntmps55
  go_wp2_with (first
    | (go_at_call 37; (with_reducible refine (HO1.out _).mono ?_); rintro r w4 ⟨hu4, v4, rfl, hB4⟩; obtain ⟨b4, a4, n4, c4, rfl⟩ := hB4.shape)
    | ((with_reducible apply stB_P); exact rfl; exact rfl; exact Blk.new _ _ rfl; exact rfl; exact rfl; exact one2 _ _ _ _
       refine wpL_folded (fun wd => Up w4 wd ∧ Blk wd w4.heap.size 46 #[.bool b4, .slice a4 n4 c4] ∧ Big wd (.agg #[.bool b4, .slice a4 n4 c4]) 1) ⟨gUp, gBlk, (hB4.up (Up.alloc _ _)).setRow (Blk.new _ _ rfl)⟩ ?_
       rintro w5 ⟨hu5, hb5, hB5⟩))
  have hu := hu4.trans hu5
  have hz4 := hu4.size
  have HG := hid (fun q (hq : q < n) => show G q < w4.heap.size from Nat.lt_of_lt_of_le (HGl.out q hq) hz4)
  have HbP := hid (show base ≤ w4.heap.size from Nat.le_trans hb hz4)
  obtain ⟨bP, hbP⟩ : ∃ y, w4.heap.size = y := ⟨_, rfl⟩
  rw [hbP] at hb5 HG HbP ⊢
  have hMI : MI w base bP (bP + 1) n (.slice pA n cA) G b4 a4 n4 c4 1 (.slice none 0 0) [] V w5 := ⟨HM.out.up hu, hb5, hB5, OwnB.nil _ _, Below.mono hu hb⟩
  have HB0 := hid hb
  clear hu4 hu5 hb5 hB5 hB4 hz4 hbP hu HGl HM hb HO1
  go_loopg [4, 5] n (fun g t4 t5 wr => ∃ (k : Nat) (V' : Nat → Nat → Int) (b0 : Bool) (p0 : Option Addr) (n0 c0 : Nat) (L : List Int), k ≤ n ∧ n - k ≤ g ∧ t5 = .int .i64 (k : Nat) ∧ (∀ j, j < k → 0 < (gs V j).2 0 0) ∧ Left n k (gs V k).2 V' ∧ L ++ mins (n - k) (gs V k).1 (gs V k).2 = T ∧ L.length = k ∧ MI w base bP (bP + 1) n (.slice pA n cA) G b0 p0 n0 c0 (gs V k).1 t4 L V' wr)
  case atStart => exact ⟨0, V, b4, a4, n4, c4, [], Nat.zero_le _, by omega, rfl, fun j hj => absurd hj (Nat.not_lt_zero _), Left.start fun _ _ _ _ => rfl, HT.out, rfl, hMI⟩
  case round =>
    clear hMI HT
    obtain ⟨k, V', b0, p0, n0, c0, L, hk, hkg, rfl, hpos, hleft, hdone, hLl, hMI⟩ := hrel
    obtain ⟨pL, cL, rfl⟩ := hMI.l.slice
    have HMI := hid hMI
    have HPos := hid hpos
    have HLeft := hid hleft
    have HDone := hid hdone
    have HSz := hid (show bP + 1 ≤ wr.heap.size from hMI.p.lt)
    have HLl := hid hLl
    clear hpos hleft hdone hMI hLl
    by_cases hlt : k < n
    · obtain ⟨s, hs⟩ : ∃ s, n - k = s + 1 := ⟨n - k - 1, by omega⟩
      obtain ⟨gA, cA', CA, hvA, -, hcA, hBA, hEA⟩ := HMI.out.m.open (by omega)
      injection hvA with x1 _ x3
      subst x1 x3
      have HEA := hid hEA
      obtain ⟨ck, hCk⟩ := hEA k hlt
      have HCk := hid hCk
      have hcx := hBA.cell k hCk
      obtain ⟨Ck, bk, ak, nk, dk, hBk, -, h1, h2, hbig⟩ := HMI.out.m.entry hlt hlt
      have HRk := hid (fun w' (hB : Blk w' (G k) 46 Ck) => bigAt_range hB h1 h2)
      obtain ⟨r0, r1, r2⟩ := HR.out k hlt HPos.out
      obtain ⟨q, hq⟩ : ∃ q, (gs V k).1 = q := ⟨_, rfl⟩
      obtain ⟨M, hM⟩ : ∃ M, (gs V k).2 = M := ⟨_, rfl⟩
      have HN1 := hid (show (gs V (k + 1)).1 = M 0 0 from by rw [← hM]; rfl)
      have HN2 := hid (show (gs V (k + 1)).2 = nxt q M from by rw [← hM, ← hq]; rfl)
      have HP2 := hid (fun (hp : 0 < M 0 0) j (hj : j < k + 1) => show 0 < (gs V j).2 0 0 from by
        by_cases e : j = k
        · rw [e, hM]; exact hp
        · exact HPos.out j (by omega))
      have HD2 := hid (show L ++ (M 0 0 :: (if 0 < M 0 0 then mins s (M 0 0) (nxt q M) else [])) = T from by have h := HDone.out; rw [hq, hM, hs, mins_succ] at h; exact h)
      have HLf : Hid (Left n k M V') := hid (by have h := HLeft.out; rw [hM] at h; exact h)
      have HMQ : Hid (MI w base bP (bP + 1) n (.slice (some ⟨gA, 0, none⟩) n cA) G b0 p0 n0 c0 q (.slice pL L.length cL) L V' wr) := hid (by have h := HMI.out; rw [hq] at h; exact h)
      have h00 : V' k k = M 0 0 := by have h := HLf.out k k (Nat.le_refl _) hlt (Nat.le_refl _) hlt; rwa [Nat.sub_self] at h
      rw [hq] at r0 r1
      rw [hM] at r2
      rw [h00] at hbig
      have HQ := hid (show q ≠ 0 ∧ q.natAbs < bp B ∧ ∀ i j, (M i j).natAbs < bp B from ⟨Int.ne_of_gt r0, r1, r2⟩)
      have HSg := hid (fun w v (h : Big w v (M 0 0)) => rsign_big h)
      have e1 : IntKind.i64.wrap ((k : Int) + 1) = (k : Int) + 1 := IntWalk.i64_in _ (by omega)
      have HL9 : Hid (L.length < 1000000) := hid (by have := HLl.out; omega)
      have HBB := hid hBA
      obtain ⟨m0, hm0⟩ : ∃ y, M 0 0 = y := ⟨_, rfl⟩
      have HM0 := hid hm0
      rw [hm0] at hbig HSg HN1 HP2 HD2
      clear hq hM hm0 hEA hCk h1 h2 r0 r1 r2 h00 HDone HLeft HMI HPos hcA
      go_upto_region 7 with (first
        | ((with_reducible apply ldB2_P); exact rfl; exact rfl; exact HRk.out _ hBk)
        | ((with_reducible apply bsB_P); exact rfl)
        | ((with_reducible apply appB (l := L) (z := m0)); exact rfl; exact rfl; exact OwnB.up (Up.alloc _ _) HMQ.out.l; exact bigAt_range0 (Blk.new _ _ rfl); exact hbig.up (Up.alloc _ _); (focus (have := HSz.out; simp; omega)); exact HL9.out; rintro v6 w6 hO6 hg6 hb6))
      have h6 := (HMQ.out.up (Up.alloc _ _) HB0.out).app HG.out (Nat.lt_succ_self _) (Nat.le_trans HbP.out (Nat.le_succ _)) hO6 hg6 hb6
      have HLL : Hid (∀ y, L ++ [m0] = y → y.length = k + 1 ∧ (∀ Z, L ++ (m0 :: Z) = y ++ Z)) := hid (fun y hy => by
        rw [← hy]
        exact ⟨by have := HLl.out; simp; omega, fun Z => by rw [List.append_assoc]; rfl⟩)
      obtain ⟨LL, hLL⟩ : ∃ y, L ++ [m0] = y := ⟨_, rfl⟩
      obtain ⟨hl1, hl2⟩ := HLL.out LL hLL
      have HL3 := hid hl1
      replace HD2 := HD2.out
      rw [hl2] at HD2
      replace HD2 := hid HD2
      rw [hLL] at h6 hO6
      clear hLL hl1 hl2 HLL
      obtain ⟨p6, c6, rfl⟩ := hO6.slice
      obtain ⟨gB, cB, CB, hvB, -, -, hBB, hEB⟩ := h6.m.open (by omega)
      injection hvB with x1 _ x3
      injection x1 with x1
      injection x1 with x1
      subst x1 x3
      have HEB := hid hEB
      obtain ⟨ck6, hCk6⟩ := hEB k hlt
      have hcx := hBB.cell k hCk6
      obtain ⟨Ck6, bk6, ak6, nk6, dk6, hBk6, -, h1, h2, hbig6⟩ := h6.m.entry hlt hlt
      have HRk6 := hid (fun w' (hB : Blk w' (G k) 46 Ck6) => bigAt_range hB h1 h2)
      have h00 : V' k k = m0 := by have h := HLf.out k k (Nat.le_refl _) hlt (Nat.le_refl _) hlt; rwa [Nat.sub_self, HM0.out] at h
      rw [h00] at hbig6
      have H6 := hid h6
      clear hEB hCk6 h1 h2 h00 h6 hO6 hg6 hb6 HSz HRk HMQ HBB hBA hBk hbig HCk HEA
      by_cases hp : 0 < m0
      · have ds : decide (sgn m0 ≤ 0) = false := by unfold sgn; rw [decide_eq_false]; split <;> (try split) <;> omega
        have HD3 := hid (show LL ++ mins s m0 (nxt q M) = T from by have h := HD2.out; rw [if_pos hp] at h; exact h)
        have HP3 := hid (HP2.out hp)
        clear HD2 HP2 HLl HL9
        go_wp2_with (first
          | ((with_reducible apply ldB2_P); exact rfl; exact rfl; exact HRk6.out _ hBk6)
          | (go_at_call 52; (with_reducible refine (HSg.out _ _ hbig6).mono ?_); rintro r w7 ⟨rfl, hu7⟩))
        have h7 := H6.out.up hu7 HB0.out
        clear hu7 H6 hBk6 hcx HRk6 hBB HEB hbig6 ds HSg
        go_loopg [6] n (fun g ti wr => ∃ (i : Nat) (V1 : Nat → Nat → Int), k + 1 ≤ i ∧ i ≤ n ∧ n - i ≤ g ∧ ti = .int .i64 (i : Nat) ∧ At1 n k q M i (k + 1) V1 ∧ MI w base bP (bP + 1) n (.slice (some ⟨gA, 0, none⟩) n cA) G b0 p0 n0 c0 q (.slice p6 LL.length c6) LL V1 wr)
        case atStart => exact ⟨k + 1, V', Nat.le_refl _, hlt, by omega, rfl, At1.start HLf.out, h7⟩
        case round =>
          clear h7
          obtain ⟨i, V1, hki, hi, hig, rfl, hAt, hMI⟩ := hrel
          have HAt := hid hAt
          have HMI := hid hMI
          clear hAt hMI
          by_cases hil : i < n
          · have e2 : IntKind.i64.wrap ((i : Int) + 1) = (i : Int) + 1 := IntWalk.i64_in _ (by omega)
            go_wp2_with fail
            obtain ⟨wO, hwO⟩ : ∃ y, wr = y := ⟨_, rfl⟩
            rw [hwO] at HMI ⊢
            clear hwO
            go_loopg [7] n (fun g tj wr => ∃ (j : Nat) (V1 : Nat → Nat → Int), k + 1 ≤ j ∧ j ≤ n ∧ n - j ≤ g ∧ tj = .int .i64 (j : Nat) ∧ At1 n k q M i j V1 ∧ MI w base bP (bP + 1) n (.slice (some ⟨gA, 0, none⟩) n cA) G b0 p0 n0 c0 q (.slice p6 LL.length c6) LL V1 wr)
            case atStart => exact ⟨k + 1, V1, Nat.le_refl _, hlt, by omega, rfl, HAt.out, HMI.out⟩
            case round =>
              clear HAt HMI
              obtain ⟨j, V2, hkj, hj, hjg, rfl, hAt, hMI⟩ := hrel
              by_cases hjl : j < n
              · have e3 : IntKind.i64.wrap ((j : Int) + 1) = (j : Int) + 1 := IntWalk.i64_in _ (by omega)
                obtain ⟨gB, cB, CB, hvB, -, -, hBB, hEB⟩ := hMI.m.open (by omega)
                injection hvB with x1 _ x3
                injection x1 with x1
                injection x1 with x1
                subst x1 x3
                obtain ⟨ci, hCi⟩ := hEB i hil
                have HCi := hid (fun w' (hu : Up wr w') => (hBB.up hu).cell i hCi)
                obtain ⟨Ci, bi, ai, ni, di, hBi, hsz, -, -, -⟩ := hMI.m.entry hil hjl
                have hst := hAt.step hki hil hkj hjl
                have f1 := HQ.out.2.2 (k - k) (k - k)
                have f2 := HQ.out.2.2 (i - k) (j - k)
                have f3 := HQ.out.2.2 (i - k) (k - k)
                have f4 := HQ.out.2.2 (k - k) (j - k)
                rw [← hAt.old (r := k) (c := k) (by omega) (by omega) (by omega) (by omega) (by omega)] at f1
                rw [← hAt.old (r := i) (c := j) (by omega) (by omega) (by omega) (by omega) (by omega)] at f2
                rw [← hAt.old (r := i) (c := k) (by omega) (by omega) (by omega) (by omega) (by omega)] at f3
                rw [← hAt.old (r := k) (c := j) (by omega) (by omega) (by omega) (by omega) (by omega)] at f4
                have HST := hid (fun w' (hu : Up wr w') => hst ▸ rstep_any (hMI.m.up hu) (hMI.q.up hu) hlt hil hlt hjl hn (by omega) hB HQ.out.1 HQ.out.2.1 f1 f2 f3 f4)
                have HSet := hid (hAt.set hki hkj)
                obtain ⟨z, hz⟩ : ∃ z, nxt q M (i - (k + 1)) (j - (k + 1)) = z := ⟨_, rfl⟩
                rw [hz] at HST HSet
                have HMI := hid hMI
                clear hz hst f1 f2 f3 f4 hAt hMI hEB hCi hBB
                go_wp2_with fail
                refine wp_region_sp (n := 70) 12 [50, 51, 52, 53, 54, 55, 56, 57, 58, 59, 60, 61] [SP.is (.slice (some ⟨gA, 0, none⟩) n cA), SP.is (.int .i64 (i : Nat)), SP.is (.pointer (some ⟨gA, i, none⟩)), SP.is (.slice (some ⟨G i, 0, none⟩) n ci), SP.is (.int .i64 (j : Nat)), SP.is (.slice (some ⟨gA, 0, none⟩) n cA), SP.is (.int .i64 (k : Nat)), SP.is (.int .i64 (i : Nat)), SP.is (.int .i64 (j : Nat)), SP.is (.agg #[.bool b0, .slice p0 n0 c0]), SP.of (fun v w1 => Big w1 v z) (fun _ _ _ h hu => h.up hu), SP.is (.pointer (some ⟨G i, j * 2, none⟩)), SP.any] (fun wq => Up wr wq) (by kernel_rfl) (by rfl) (by kernel_rfl) (by kernel_rfl) (fun _ _ h hu => (h).trans hu) (by first | exact Up.refl _ | assumption) (fun ev w9 hS9 i o hne hi hev => ?_) (fun gR wE hq hSE huE => ?_)
                · have hS1 := hS9
                  have hcC := hev.const
                  have hcF := hev.func
                  have hcG := hev.global
                  rcases i with _ | _ | _ | _ | _ | _ | _ | _ | _ | _ | _ | _ | _ | i
                  · obtain rfl := Option.some.inj (show some _ = some o from hi)
                    have e0 := hev.other 0 (by kernel_rfl)
                    simp [Act.eval] at e0
                    exact leavesR_value (u := .slice (some ⟨gA, 0, none⟩) n cA) (by first | (go_simp; done) | (go_simp; exact rfl)) rfl
                  · obtain rfl := Option.some.inj (show some _ = some o from hi)
                    have e6 := hev.other 6 (by kernel_rfl)
                    simp [Act.eval] at e6
                    exact leavesR_value (u := .int .i64 (i : Nat)) (by first | (go_simp; done) | (go_simp; exact rfl)) rfl
                  · obtain rfl := Option.some.inj (show some _ = some o from hi)
                    have e50 : ev (.tmp 50) = (.slice (some ⟨gA, 0, none⟩) n cA) := hev.dep 0 50 (by kernel_rfl)
                    have e51 : ev (.tmp 51) = (.int .i64 (i : Nat)) := hev.dep 1 51 (by kernel_rfl)
                    exact leavesR_value (u := .pointer (some ⟨gA, i, none⟩)) (by first | (go_simp; done) | (go_simp; exact rfl)) rfl
                  · obtain rfl := Option.some.inj (show some _ = some o from hi)
                    have e52 : ev (.tmp 52) = (.pointer (some ⟨gA, i, none⟩)) := hev.dep 2 52 (by kernel_rfl)
                    have hcx := HCi.out w9 hS1; exact leavesR_value (u := .slice (some ⟨G i, 0, none⟩) n ci) (by go_simp) rfl
                  · obtain rfl := Option.some.inj (show some _ = some o from hi)
                    have e7 := hev.other 7 (by kernel_rfl)
                    simp [Act.eval] at e7
                    exact leavesR_value (u := .int .i64 (j : Nat)) (by first | (go_simp; done) | (go_simp; exact rfl)) rfl
                  · obtain rfl := Option.some.inj (show some _ = some o from hi)
                    have e0 := hev.other 0 (by kernel_rfl)
                    simp [Act.eval] at e0
                    exact leavesR_value (u := .slice (some ⟨gA, 0, none⟩) n cA) (by first | (go_simp; done) | (go_simp; exact rfl)) rfl
                  · obtain rfl := Option.some.inj (show some _ = some o from hi)
                    have e5 := hev.other 5 (by kernel_rfl)
                    simp [Act.eval] at e5
                    exact leavesR_value (u := .int .i64 (k : Nat)) (by first | (go_simp; done) | (go_simp; exact rfl)) rfl
                  · obtain rfl := Option.some.inj (show some _ = some o from hi)
                    have e6 := hev.other 6 (by kernel_rfl)
                    simp [Act.eval] at e6
                    exact leavesR_value (u := .int .i64 (i : Nat)) (by first | (go_simp; done) | (go_simp; exact rfl)) rfl
                  · obtain rfl := Option.some.inj (show some _ = some o from hi)
                    have e7 := hev.other 7 (by kernel_rfl)
                    simp [Act.eval] at e7
                    exact leavesR_value (u := .int .i64 (j : Nat)) (by first | (go_simp; done) | (go_simp; exact rfl)) rfl
                  · obtain rfl := Option.some.inj (show some _ = some o from hi)
                    have e3 := hev.other 3 (by kernel_rfl)
                    simp [Act.eval] at e3
                    exact leavesR_value (run_ldBR rfl (by go_simp) (HMI.out.p.up hS1) rfl) rfl
                  · obtain rfl := Option.some.inj (show some _ = some o from hi)
                    have e55 : ev (.tmp 55) = (.slice (some ⟨gA, 0, none⟩) n cA) := hev.dep 5 55 (by kernel_rfl)
                    have e56 : ev (.tmp 56) = (.int .i64 (k : Nat)) := hev.dep 6 56 (by kernel_rfl)
                    have e57 : ev (.tmp 57) = (.int .i64 (i : Nat)) := hev.dep 7 57 (by kernel_rfl)
                    have e58 : ev (.tmp 58) = (.int .i64 (j : Nat)) := hev.dep 8 58 (by kernel_rfl)
                    have e59 : ev (.tmp 59) = (.agg #[.bool b0, .slice p0 n0 c0]) := hev.dep 9 59 (by kernel_rfl)
                    refine leavesR_call ?_ (HST.out _ hS1)
                    go_simp
                  · obtain rfl := Option.some.inj (show some _ = some o from hi)
                    have e53 : ev (.tmp 53) = (.slice (some ⟨G i, 0, none⟩) n ci) := hev.dep 3 53 (by kernel_rfl)
                    have e54 : ev (.tmp 54) = (.int .i64 (j : Nat)) := hev.dep 4 54 (by kernel_rfl)
                    exact leavesR_value (u := .pointer (some ⟨G i, j * 2, none⟩)) (by first | (go_simp; done) | (go_simp; exact rfl)) rfl
                  · exact absurd rfl hne
                  · exact absurd (show i + 13 < 13 from (Array.getElem?_eq_some_iff.1 hi).1) (by omega)
                have hS1 := hSE
                have q0 : gR 50 = (.slice (some ⟨gA, 0, none⟩) n cA) := hq 0 50 (by decide) (by kernel_rfl)
                have q1 : gR 51 = (.int .i64 (i : Nat)) := hq 1 51 (by decide) (by kernel_rfl)
                have q2 : gR 52 = (.pointer (some ⟨gA, i, none⟩)) := hq 2 52 (by decide) (by kernel_rfl)
                have q3 : gR 53 = (.slice (some ⟨G i, 0, none⟩) n ci) := hq 3 53 (by decide) (by kernel_rfl)
                have q4 : gR 54 = (.int .i64 (j : Nat)) := hq 4 54 (by decide) (by kernel_rfl)
                have q5 : gR 55 = (.slice (some ⟨gA, 0, none⟩) n cA) := hq 5 55 (by decide) (by kernel_rfl)
                have q6 : gR 56 = (.int .i64 (k : Nat)) := hq 6 56 (by decide) (by kernel_rfl)
                have q7 : gR 57 = (.int .i64 (i : Nat)) := hq 7 57 (by decide) (by kernel_rfl)
                have q8 : gR 58 = (.int .i64 (j : Nat)) := hq 8 58 (by decide) (by kernel_rfl)
                have q9 : gR 59 = (.agg #[.bool b0, .slice p0 n0 c0]) := hq 9 59 (by decide) (by kernel_rfl)
                have q10 : (fun v w1 => Big w1 v z) (gR 60) wE := hq 10 60 (by decide) (by kernel_rfl)
                dsimp only at q10
                obtain ⟨v60, hv60⟩ : ∃ v, gR 60 = v := ⟨_, rfl⟩
                rw [hv60] at q10
                have q11 : gR 61 = (.pointer (some ⟨G i, j * 2, none⟩)) := hq 11 61 (by decide) (by kernel_rfl)
                refine ⟨fun h => absurd h (by decide), fun o ho => ?_⟩
                obtain rfl := Option.some.inj (show some _ = some o from ho)
                simp only [putL, List.map_cons, List.map_nil, q0, q1, q2, q3, q4, q5, q6, q7, q8, q9, hv60, q11, Act.put, pu1, pu2, pu3]
                clear hq hSE q0 q1 q2 q3 q4 q5 q6 q7 q8 q9 q11
                obtain ⟨yb, ya, yn, yc, rfl⟩ := q10.shape
                have hset := MI.set (HMI.out.up hS1 HB0.out) hil hjl HG.out (Nat.lt_succ_self _) (hBi.up hS1) q10
                refine wp_stB2 _ _ rfl rfl rfl (hBi.up hS1) (by omega) ?_
                obtain ⟨wK, hwK⟩ : ∃ y, wE.setRow (G i) (splB Ci (j * 2) [.bool yb, .slice ya yn yc]) = y := ⟨_, rfl⟩
                rw [hwK] at hset ⊢
                clear hwK hS1 huE q10 HST hBi HCi HMI
                go_wp2_with fail
                go_roundg (n - (j + 1))
                case measure => omega
                case rel => exact ⟨j + 1, _, by omega, hjl, Nat.le_refl _, rfl, HSet.out, hset⟩
              · obtain rfl : j = n := by omega
                have HR2 := hid hAt.row
                have HMI := hid hMI
                clear hAt hMI
                go_wp2_with fail
                go_roundg (j - (i + 1))
                case measure => omega
                case rel => exact ⟨i + 1, V2, by omega, hil, Nat.le_refl _, rfl, HR2.out, HMI.out⟩
          · obtain rfl : i = n := by omega
            have HLn := hid (show Left i (k + 1) (nxt q M) V1 from HAt.out.all)
            have h00 : V1 k k = m0 := by rw [HAt.out.old (r := k) (c := k) (by omega) (by omega) (by omega) (by omega) (by omega), Nat.sub_self, HM0.out]
            obtain ⟨gB, cB, CB, hvB, -, -, hBB, hEB⟩ := HMI.out.m.open (by omega)
            injection hvB with x1 _ x3
            injection x1 with x1
            injection x1 with x1
            subst x1 x3
            obtain ⟨ck8, hCk8⟩ := hEB k hlt
            have hcx := hBB.cell k hCk8
            obtain ⟨Ck8, bk8, ak8, nk8, dk8, hBk8, -, h1, h2, hbig8⟩ := HMI.out.m.entry hlt hlt
            have HRk8 := hid (fun w' (hB : Blk w' (G k) 46 Ck8) => bigAt_range hB h1 h2)
            rw [h00] at hbig8
            clear h00 h1 h2 hEB hCk8 hBB HAt
            go_wp2_with (first
              | ((with_reducible apply ldB2_P); exact rfl; exact rfl; exact HRk8.out _ hBk8)
              | ((with_reducible apply stB_P); exact rfl; exact rfl; exact HMI.out.p; exact rfl; exact rfl; exact one2 _ _ _ _
                 refine wpL_folded (fun wd => MI w base bP (bP + 1) i (.slice (some ⟨gA, 0, none⟩) i cA) G bk8 ak8 nk8 dk8 m0 (.slice p6 LL.length c6) LL V1 wd) (HMI.out.prev HG.out (Nat.lt_succ_self _) HbP.out hbig8) ?_
                 rintro w9 h9))
            go_roundg (i - (k + 1))
            case measure => omega
            case rel => exact ⟨k + 1, V1, bk8, ak8, nk8, dk8, LL, hlt, Nat.le_refl _, rfl, HP3.out, by rw [HN2.out]; exact HLn.out, by rw [HN1.out, HN2.out, show i - (k + 1) = s by omega]; exact HD3.out, HL3.out, by rw [HN1.out]; exact h9⟩
      · have ds : decide (sgn m0 ≤ 0) = true := by unfold sgn; rw [decide_eq_true]; split <;> (try split) <;> omega
        have hT : LL = T := by have h := HD2.out; rw [if_neg hp, List.append_nil] at h; exact h
        subst hT
        clear HD2
        go_wp2_with (first
          | ((with_reducible apply ldB2_P); exact rfl; exact rfl; exact HRk6.out _ hBk6)
          | (go_at_call 52; (with_reducible refine (HSg.out _ _ hbig6).mono ?_); rintro r w7 ⟨rfl, hu7⟩))
        go_ret
        exact ⟨_, rfl, hu7.below H6.out.u (Nat.le_trans HB0.out H6.out.u.size), (H6.out.l.up hu7).bv⟩
    · obtain rfl : k = n := by omega
      have hT : L = T := by have h := HDone.out; rw [Nat.sub_self] at h; rw [← h]; show L = L ++ []; rw [List.append_nil]
      subst hT
      clear HDone HR HLeft HPos
      go_wp2_with fail
      go_ret
      exact ⟨_, rfl, HMI.out.u, HMI.out.l.bv⟩
theorem all_last {s : Nat} {V : Nat → Nat → Int} (hl : (mins (s + 1) 1 V).length = s + 1) : ((mins (s + 1) 1 V).all fun x => decide (0 < x)) = decide (0 < zth (mins (s + 1) 1 V) s) := by
  have h := mins_all (s + 1) 1 V
  rw [Bool.eq_iff_iff, List.all_eq_true, decide_eq_true_iff]
  simp only [decide_eq_true_iff]
  rw [h]
  unfold zth
  constructor
  · rintro (h | ⟨_, h⟩)
    · omega
    · exact h
  · exact fun h => .inr ⟨hl, h⟩
theorem all_short {s : Nat} {V : Nat → Nat → Int} (hl : (mins (s + 1) 1 V).length ≠ s + 1) : ((mins (s + 1) 1 V).all fun x => decide (0 < x)) = false := by
  rw [Bool.eq_false_iff, Ne, List.all_eq_true]
  simp only [decide_eq_true_iff]
  rw [mins_all (s + 1) 1 V]
  rintro (h | ⟨h, _⟩)
  · omega
  · exact hl h
theorem sgn_gt (z : Int) : decide (0 < sgn z) = decide (0 < z) := by
  unfold sgn
  rw [Bool.eq_iff_iff, decide_eq_true_iff, decide_eq_true_iff]
  split <;> (try split) <;> omega
theorem RE_AM {n : Nat} (l : List Int) : ∀ i j, i < n → j < n → RE n l 1 0 i j = AM n l i j := fun i j hi hj => by
  unfold RE
  rw [AM_at hi hj, Int.one_mul, ite_self, Int.add_zero]
set_option maxHeartbeats 4000000 in
theorem rdefinite_any {w : World} {base n B : Nat} {av : Value} {G : Nat → Nat} {V : Nat → Nat → Int} (h : OwnM w base av n n G V) (hn : n ≤ 8) (hB : B ≤ 100) (hR : Run B n V) (hb : base ≤ w.heap.size) :
    Calls Tryz.prog 56 #[av] w fun r w' => r = .returned (.bool ((mins n 1 V).all fun x => decide (0 < x))) ∧ Below base w w' := by
  have HMn := hid (rminors_any h hn hB hR hb)
  obtain ⟨pA, cA, rfl⟩ := h.slice
  have HB0 := hid hb
  clear h hR hb hB
  rcases n with _ | s
  · rw [show ((mins 0 1 V).all fun x => decide (0 < x)) = true from rfl]
    obtain ⟨T, hT⟩ : ∃ T, mins 0 1 V = T := ⟨_, rfl⟩
    rw [hT] at HMn
    clear hT
    go_enter Tryz.func56, Tryz.ntmps56
    go_wp2_with (first
      | (go_at_call 55; (with_reducible refine HMn.out.mono ?_); rintro r w2 ⟨z2, rfl, hB2, hz2⟩; obtain ⟨p2, c2, rfl⟩ := hz2.slice))
    go_ret
    exact ⟨rfl, hB2⟩
  · have dn : ((s : Int) + 1 == 0) = false := by simp; omega
    by_cases hl : (mins (s + 1) 1 V).length = s + 1
    · rw [all_last hl]
      have HL := hid hl
      obtain ⟨T, hT⟩ : ∃ T, mins (s + 1) 1 V = T := ⟨_, rfl⟩
      rw [hT] at HMn HL ⊢
      obtain ⟨z, hz⟩ : ∃ z, zth T s = z := ⟨_, rfl⟩
      have HZ := hid hz
      rw [hz, ← sgn_gt]
      have HSg := hid (fun w v (h : Big w v z) => rsign_big h)
      have ei : IntKind.i64.wrap (((s + 1 : Nat) : Int) - 1) = (s : Int) := by rw [show (((s + 1 : Nat) : Int) - 1) = s by omega]; exact IntWalk.i64_in _ (by omega)
      clear hT hl hz
      go_enter Tryz.func56, Tryz.ntmps56
      go_upto_region 2 with (first
        | (go_at_call 55; (with_reducible refine HMn.out.mono ?_); rintro r w2 ⟨z2, rfl, hB2, hz2⟩))
      obtain ⟨g, cap, C, rfl, hcp, hBC, hE⟩ := hz2.open (by rw [HL.out]; omega)
      obtain ⟨b, a, m, c, h1, h2, h3⟩ := hE s (by rw [HL.out]; omega)
      rw [HZ.out] at h3
      have HRk := hid (fun w' (hB : Blk w' g 46 C) => bigAt_range hB h1 h2)
      clear hE h1 h2
      rw [HL.out]
      rw [HL.out] at hcp
      go_wp2_with (first
        | ((with_reducible apply ldB2_P); exact rfl; exact rfl; exact HRk.out _ hBC)
        | (go_at_call 52; (with_reducible refine (HSg.out _ _ h3).mono ?_); rintro r w7 ⟨rfl, hu7⟩))
      go_ret
      exact ⟨rfl, hu7.below hB2 (Nat.le_trans HB0.out hB2.size)⟩
    · rw [all_short hl]
      have dl : (((mins (s + 1) 1 V).length : Int) == (s : Int) + 1) = false := by simp; omega
      obtain ⟨T, hT⟩ : ∃ T, mins (s + 1) 1 V = T := ⟨_, rfl⟩
      rw [hT] at HMn dl
      clear hT hl
      go_enter Tryz.func56, Tryz.ntmps56
      go_wp2_with (first
        | (go_at_call 55; (with_reducible refine HMn.out.mono ?_); rintro r w2 ⟨z2, rfl, hB2, hz2⟩; obtain ⟨p2, c2, rfl⟩ := hz2.slice))
      go_ret
      exact ⟨rfl, hB2⟩
set_option maxHeartbeats 4000000 in
theorem rDefinite_any {v : Value} {N : Int} {l : List Int} {w : World} (hm : Sm w v N l) :
    Calls Tryz.prog 19 #[v] w fun r w' => r = .returned (.bool (dfV N l)) ∧ Up w w' := by
  have HRT := hid (fun w' (hu : Up w w') => rright_any (hm.up hu))
  have HSm := hid hm
  obtain ⟨s0, rfl, ⟨p, cap, rfl, -, -⟩, -, -, -⟩ := hm
  have hB := Blk.new (w := w) (b := w.heap.size) 24 #[.int .i64 N, .slice p l.length cap] rfl
  have hU := Up.alloc w (.cells #[.int .i64 N, .slice p l.length cap] 24)
  obtain ⟨W0, hW0⟩ : ∃ W0, w.alloc (.cells #[.int .i64 N, .slice p l.length cap] 24) = W0 := ⟨_, rfl⟩
  rw [hW0] at hB hU
  cases hR : rt N l with
  | false =>
    rw [hR] at HRT
    rw [show dfV N l = false from by unfold dfV; rw [hR, Bool.and_false]]
    clear hR
    go_enter Tryz.func19, Tryz.ntmps19
    go_wp2_with (first
      | ((with_reducible apply ldM_P); exact rfl; exact rfl; exact hB; exact rfl)
      | (go_at_call 12; (with_reducible refine (HRT.out _ hU).mono ?_); rintro r w1 ⟨rfl, hu1⟩))
    go_ret
    exact ⟨rfl, hU.trans hu1⟩
  | true =>
    rw [hR] at HRT
    obtain ⟨n0, n8, _, _⟩ := rt_spec hR
    obtain ⟨n, rfl⟩ : ∃ n : Nat, N = (n : Int) := ⟨N.toNat, by omega⟩
    have HRW := hid (fun w' (hu : Up w w') => rows_any (HSm.out.up hu) hR (s := 1) (k := 0) (by unfold I64; omega) (by unfold I64; omega))
    have HDF := hid (fun w' b z G (hb : b ≤ w'.heap.size) (hO : OwnM w' b z n n G (RE n l 1 0)) => rdefinite_any (hO.congr (RE_AM l)) (by omega) (by decide) (run_AM hR) hb)
    have e : dfV n l = ((mins n 1 (AM n l)).all fun x => decide (0 < x)) := by unfold dfV mnR; rw [hR, if_pos rfl, Bool.and_true]; rfl
    rw [← e] at HDF
    obtain ⟨T, hT⟩ : ∃ T, dfV n l = T := ⟨_, rfl⟩
    rw [hT] at HDF ⊢
    clear e hT hR n0 n8
    go_enter Tryz.func19, Tryz.ntmps19
    go_wp2_with (first
      | ((with_reducible apply ldM_P); exact rfl; exact rfl; (first | exact hB | exact hB1); exact rfl)
      | (go_at_call 12; (with_reducible refine (HRT.out _ hU).mono ?_); rintro r w1 ⟨rfl, hu1⟩; have hB1 := hB.up hu1; have hU1 := hU.trans hu1)
      | (go_at_call 51; (with_reducible refine (HRW.out _ hU1).mono ?_); rintro r w2 ⟨z2, b2, G2, rfl, hu2, hb2, hb3, hO2⟩)
      | (go_at_call 56; (with_reducible refine (HDF.out _ _ _ _ hb3 hO2).mono ?_); rintro r w3 ⟨rfl, hB3⟩))
    go_ret
    exact ⟨rfl, Below.trans (hU1.trans hu2) (Below.mono hB3 (Nat.le_trans hU1.size hb2))⟩
structure DI (w : World) (base bR bG bQ n : Nat) (av : Value) (G : Nat → Nat) (gb : Bool) (gp : Option Addr) (gn gc : Nat) (σ : Int) (b0 : Bool) (p0 : Option Addr) (n0 c0 : Nat) (q : Int) (V : Nat → Nat → Int) (wr : World) : Prop where
  m : OwnM wr base av n n G V
  r : Blk wr bR 46 #[.bool false, .slice none 0 0]
  s : Blk wr bG 46 #[.bool gb, .slice gp gn gc]
  z : Big wr (.agg #[.bool gb, .slice gp gn gc]) σ
  p : Blk wr bQ 46 #[.bool b0, .slice p0 n0 c0]
  q : Big wr (.agg #[.bool b0, .slice p0 n0 c0]) q
  u : Up w wr
  g : ∀ i, i < n → bR < G i ∧ G i < bG
  o : bG < bQ ∧ bR < bG ∧ w.heap.size ≤ bR ∧ bR < base
section
variable {w wr wr' : World} {base bR bG bQ n : Nat} {av : Value} {G : Nat → Nat} {gb b0 : Bool} {gp p0 : Option Addr} {gn gc n0 c0 : Nat} {σ q : Int} {V : Nat → Nat → Int}
theorem DI.up (h : DI w base bR bG bQ n av G gb gp gn gc σ b0 p0 n0 c0 q V wr) (hu : Up wr wr') : DI w base bR bG bQ n av G gb gp gn gc σ b0 p0 n0 c0 q V wr' :=
  ⟨h.m.up hu, h.r.up hu, h.s.up hu, h.z.up hu, h.p.up hu, h.q.up hu, h.u.trans hu, h.g, h.o⟩
theorem DI.set (h : DI w base bR bG bQ n av G gb gp gn gc σ b0 p0 n0 c0 q V wr) {i j : Nat} (hi : i < n) (hj : j < n)
    {C : Array Value} (hC : Blk wr (G i) 46 C) {b : Bool} {p : Option Addr} {k c : Nat} {z : Int} (hz : Big wr (.agg #[.bool b, .slice p k c]) z) :
    DI w base bR bG bQ n av G gb gp gn gc σ b0 p0 n0 c0 q (upd2 V i j z) (wr.setRow (G i) (splB C (j * 2) [.bool b, .slice p k c])) := by
  have ⟨g1, g2⟩ := h.g i hi
  have ⟨o1, o2, o3, _⟩ := h.o
  exact ⟨(h.m.set hi hj hC hz).1, Blk.row_other h.r _ (by omega), Blk.row_other h.s _ (by omega), h.z.setRow hC, Blk.row_other h.p _ (by omega), h.q.setRow hC, below_setRow h.u (by omega) _, h.g, h.o⟩
theorem DI.prev (h : DI w base bR bG bQ n av G gb gp gn gc σ b0 p0 n0 c0 q V wr) {b : Bool} {p : Option Addr} {m c : Nat} {z : Int} (hz : Big wr (.agg #[.bool b, .slice p m c]) z) :
    DI w base bR bG bQ n av G gb gp gn gc σ b p m c z V (wr.setRow bQ #[.bool b, .slice p m c]) := by
  have ⟨o1, o2, o3, _⟩ := h.o
  exact ⟨h.m.otherB h.p _ fun i hi => by have := h.g i hi; omega, Blk.row_other h.r _ (by omega), Blk.row_other h.s _ (by omega), h.z.setRow h.p, h.p.setRow _, hz.setRow h.p, below_setRow h.u (by omega) _, h.g, h.o⟩
theorem DI.sign (h : DI w base bR bG bQ n av G gb gp gn gc σ b0 p0 n0 c0 q V wr) {b : Bool} {p : Option Addr} {m c : Nat} {z : Int} (hz : Big wr (.agg #[.bool b, .slice p m c]) z) :
    DI w base bR bG bQ n av G b p m c z b0 p0 n0 c0 q V (wr.setRow bG #[.bool b, .slice p m c]) := by
  have ⟨o1, o2, o3, _⟩ := h.o
  exact ⟨h.m.otherB h.s _ fun i hi => by have := h.g i hi; omega, Blk.row_other h.r _ (by omega), h.s.setRow _, hz.setRow h.s, Blk.row_other h.p _ (by omega), h.q.setRow h.s, below_setRow h.u (by omega) _, h.g, h.o⟩
end
theorem Big.setM {w : World} {g : Nat} {C D : Array Value} {v : Value} {z : Int} (h : Big w v z) (hB : Blk w g 49 C) : Big (w.setRow g D) v z := by
  obtain ⟨a, c, h1, a2, c2, h2, h3, h4⟩ := h
  refine ⟨a, c, h1, a2, c2, h2, h3, fun h0 => ?_⟩
  obtain ⟨b, E, h5, h6, h7⟩ := h4 h0
  refine ⟨b, E, h5, h6.row_other _ fun e => ?_, h7⟩
  subst e
  unfold Blk at hB h6
  rw [hB] at h6
  simp at h6
theorem RowB.setM {w : World} {g p : Nat} {C D : Array Value} {l : List Int} (h : RowB w p l) (hB : Blk w g 49 C) : RowB (w.setRow g D) p l := by
  obtain ⟨E, h1, h2, h3⟩ := h
  refine ⟨E, h1.row_other _ fun e => ?_, h2, fun j hj => ?_⟩
  · subst e
    unfold Blk at hB h1
    rw [hB] at h1
    simp at h1
  · obtain ⟨b, a, n, c, e1, e2, e3⟩ := h3 j hj
    exact ⟨b, a, n, c, e1, e2, e3.setM hB⟩
theorem Blk.setM {w : World} {g p : Nat} {t : TypeId} {C D E : Array Value} (h : Blk w p t E) (hB : Blk w g 49 C) (ht : t ≠ 49) : Blk (w.setRow g D) p t E := by
  refine h.row_other _ fun e => ?_
  subst e
  unfold Blk at hB h
  rw [hB] at h
  simp at h
  exact ht h.2.symm
theorem Blk.setCellEq {w : World} {g i : Nat} {t : TypeId} {C : Array Value} {v : Value} (h : Blk w g t C) : w.setCell ⟨g, i, none⟩ v = w.setRow g (C.setIfInBounds i v) := setCell_eq_setRow w g i C t (0, 0) v h
theorem exch_inj {a b i j : Nat} (h : exch a b i = exch a b j) : i = j := by rw [← exch_back a b i, h, exch_back]
structure DP (w : World) (base bR bG bQ n gA : Nat) (C : Array Value) (G : Nat → Nat) (gb : Bool) (gp : Option Addr) (gn gc : Nat) (σ : Int) (b0 : Bool) (p0 : Option Addr) (n0 c0 : Nat) (q : Int) (V : Nat → Nat → Int) (wr : World) : Prop where
  a : Blk wr gA 49 C
  rws : ∀ i, i < n → base ≤ G i ∧ RowB wr (G i) (mk n (V i))
  r : Blk wr bR 46 #[.bool false, .slice none 0 0]
  s : Blk wr bG 46 #[.bool gb, .slice gp gn gc]
  z : Big wr (.agg #[.bool gb, .slice gp gn gc]) σ
  p : Blk wr bQ 46 #[.bool b0, .slice p0 n0 c0]
  q : Big wr (.agg #[.bool b0, .slice p0 n0 c0]) q
  u : Up w wr
  g : ∀ i, i < n → bR < G i ∧ G i < bG
  o : bG < bQ ∧ bR < bG ∧ w.heap.size ≤ bR ∧ bR < base
  b : base ≤ gA
section
variable {w wr wr' : World} {base bR bG bQ n gA cap : Nat} {C : Array Value} {G : Nat → Nat} {gb b0 : Bool} {gp p0 : Option Addr} {gn gc n0 c0 : Nat} {σ q : Int} {V : Nat → Nat → Int}
theorem DI.parts (h : DI w base bR bG bQ n (.slice (some ⟨gA, 0, none⟩) n cap) G gb gp gn gc σ b0 p0 n0 c0 q V wr) (h0 : 0 < n) :
    ∃ C, DP w base bR bG bQ n gA C G gb gp gn gc σ b0 p0 n0 c0 q V wr ∧ n ≤ cap ∧ cap ≤ maxLen ∧ C.size = cap * 1 ∧ (∀ i, i < n → ∃ c, C[i]? = some (.slice (some ⟨G i, 0, none⟩) n c)) ∧ ∀ i j, i < n → j < n → G i = G j → i = j := by
  obtain ⟨xs, ⟨hx, h1 | ⟨g, cap', cur, hv, hb, hB, hc, hm, hs, ht⟩⟩, h2, h3, h4⟩ := h.m
  · omega
  · injection hv with x1 _ x3
    injection x1 with x1
    injection x1 with x1
    subst x1 x3
    refine ⟨cur, ⟨hB, h3, h.r, h.s, h.z, h.p, h.q, h.u, h.g, h.o, hb⟩, hc, hm, hs, fun i hi => ?_, h4⟩
    obtain ⟨c, h5⟩ := h2 i hi
    rw [← ht, List.getElem?_take_of_lt (by omega), Array.getElem?_toList] at h5
    exact ⟨c, h5⟩
theorem DP.up (h : DP w base bR bG bQ n gA C G gb gp gn gc σ b0 p0 n0 c0 q V wr) (hu : Up wr wr') : DP w base bR bG bQ n gA C G gb gp gn gc σ b0 p0 n0 c0 q V wr' :=
  ⟨h.a.up hu, fun i hi => ⟨(h.rws i hi).1, (h.rws i hi).2.up hu⟩, h.r.up hu, h.s.up hu, h.z.up hu, h.p.up hu, h.q.up hu, h.u.trans hu, h.g, h.o, h.b⟩
theorem DP.setC (h : DP w base bR bG bQ n gA C G gb gp gn gc σ b0 p0 n0 c0 q V wr) (i : Nat) (v : Value) : DP w base bR bG bQ n gA (C.setIfInBounds i v) G gb gp gn gc σ b0 p0 n0 c0 q V (wr.setCell ⟨gA, i, none⟩ v) := by
  have ⟨o1, o2, o3, o4⟩ := h.o
  have hb := h.b
  rw [h.a.setCellEq]
  exact ⟨h.a.setRow _, fun i hi => ⟨(h.rws i hi).1, (h.rws i hi).2.setM h.a⟩, h.r.setM h.a (by decide), h.s.setM h.a (by decide), h.z.setM h.a, h.p.setM h.a (by decide), h.q.setM h.a, below_setRow h.u (by omega) _, h.g, h.o, h.b⟩
theorem DP.swap {i k : Nat} {ci ck : Nat} (h : DP w base bR bG bQ n gA ((C.setIfInBounds i (.slice (some ⟨G k, 0, none⟩) n ck)).setIfInBounds k (.slice (some ⟨G i, 0, none⟩) n ci)) G gb gp gn gc σ b0 p0 n0 c0 q V wr)
    (hi : i < n) (hk : k < n) (hn : n ≤ cap) (hm : cap ≤ maxLen) (hs : C.size = cap * 1) (he : ∀ i, i < n → ∃ c, C[i]? = some (.slice (some ⟨G i, 0, none⟩) n c)) (hj : ∀ i j, i < n → j < n → G i = G j → i = j) :
    DI w base bR bG bQ n (.slice (some ⟨gA, 0, none⟩) n cap) (fun r => G (exch i k r)) gb gp gn gc σ b0 p0 n0 c0 q (fun r => V (exch i k r)) wr := by
  refine ⟨⟨((C.setIfInBounds i (.slice (some ⟨G k, 0, none⟩) n ck)).setIfInBounds k (.slice (some ⟨G i, 0, none⟩) n ci)).toList.take (n * 1), ⟨?_, .inr ⟨gA, cap, _, rfl, h.b, h.a, hn, hm, by simp; omega, rfl⟩⟩, fun r hr => ?_, fun r hr => h.rws _ (exch_lt hi hk hr), fun a b ha hb e => exch_inj (hj _ _ (exch_lt hi hk ha) (exch_lt hi hk hb) e)⟩, h.r, h.s, h.z, h.p, h.q, h.u, fun r hr => h.g _ (exch_lt hi hk hr), h.o⟩
  · rw [List.length_take, Array.length_toList]; simp; omega
  · rw [List.getElem?_take_of_lt (by omega), Array.getElem?_toList, Array.getElem?_setIfInBounds, Array.getElem?_setIfInBounds]
    show ∃ c, _ = some (Value.slice (some ⟨G (exch i k r), 0, none⟩) n c)
    unfold exch
    by_cases e1 : k = r
    · subst e1
      rw [if_pos rfl, if_pos (by simp; omega)]
      by_cases e2 : k = i
      · subst e2; rw [if_pos rfl]; exact ⟨_, rfl⟩
      · rw [if_neg e2, if_pos rfl]; exact ⟨_, rfl⟩
    · rw [if_neg e1]
      by_cases e2 : i = r
      · subst e2; rw [if_pos rfl, if_pos (by omega), if_pos rfl]; exact ⟨_, rfl⟩
      · rw [if_neg e2, if_neg (Ne.symm e2), if_neg (Ne.symm e1)]; exact he r hr
end
end Go.Proofs.YtnpaodlhhcnbgaaGreatDoor
