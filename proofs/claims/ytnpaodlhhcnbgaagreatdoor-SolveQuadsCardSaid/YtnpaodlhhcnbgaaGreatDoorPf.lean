import Derived.Test.YtnpaodlhhcnbgaaGreatDoorPe
import Derived.ArgAppend
namespace Go.Proofs.YtnpaodlhhcnbgaaGreatDoor
open Go Go.RowKit
set_option maxRecDepth 100000
set_option linter.unusedSimpArgs false
section
variable {P : Program} {ops : Array Oper} {Q : Exit → Act → World → Prop} {md : Region.Mode}
def relB2 (md : Region.Mode) (ops : Array Oper) (n s1 s2 x : Nat) : Bool :=
  ((List.range ops.size).all fun i => ((ops[i]?).map fun o => o.guard.isNone && (o.after.all fun e => !Region.binds md e || decide (e.on < i)) &&
    (if i = s1 ∨ i = s2 then o.dst.isNone else ((o.dst.map fun d => decide (d < n)).getD false) && (List.range ops.size).all fun j => j == i || ((ops[j]?).map fun o' => o'.dst != o.dst).getD true)).getD false) &&
  ((List.range ops.size).all fun j => j == s1 || j == s2 || j == x || waitsU md ops j ops.size s1) && ((List.range ops.size).all fun j => j == s2 || waitsU md ops j ops.size s2) &&
  (decide (x < s1) && decide (s1 < s2) && decide (s2 < ops.size))
theorem relB2_op {n s1 s2 x : Nat} (h : relB2 md ops n s1 s2 x = true) {i : Nat} {o : Oper} (hi : ops[i]? = some o) :
    o.guard = none ∧ (∀ e ∈ o.after, Region.binds md e = true → e.on < i) ∧ (i = s1 ∨ i = s2 → o.dst = none) ∧
    (i ≠ s1 → i ≠ s2 → ∃ d, o.dst = some d ∧ d < n ∧ ∀ j o', ops[j]? = some o' → j ≠ i → o'.dst ≠ some d) := by
  unfold relB2 at h
  simp only [Bool.and_eq_true] at h
  have hlt : i < ops.size := (Array.getElem?_eq_some_iff.1 hi).1
  have h1 := List.all_eq_true.1 h.1.1.1 i (List.mem_range.2 hlt)
  rw [hi] at h1
  simp only [Option.map_some, Option.getD_some, Bool.and_eq_true] at h1
  obtain ⟨⟨h2, h3⟩, h4⟩ := h1
  refine ⟨Option.isNone_iff_eq_none.1 h2, fun e he hb => ?_, fun hs => ?_, fun hs hs' => ?_⟩
  · have := Array.all_eq_true_iff_forall_mem.1 h3 e he
    simpa [hb] using this
  · rw [if_pos hs] at h4
    exact Option.isNone_iff_eq_none.1 h4
  · rw [if_neg (by omega), Bool.and_eq_true] at h4
    cases hd : o.dst with
    | none => rw [hd] at h4; simp at h4
    | some d =>
      rw [hd] at h4
      refine ⟨d, rfl, by simpa using h4.1, fun j o' hj hji => ?_⟩
      have h5 := List.all_eq_true.1 h4.2 j (List.mem_range.2 (Array.getElem?_eq_some_iff.1 hj).1)
      rw [hj] at h5
      simp only [Option.map_some, Option.getD_some, Bool.or_eq_true, beq_iff_eq, bne_iff_ne] at h5
      exact h5.resolve_left hji
theorem relB2_is {n s1 s2 x : Nat} (h : relB2 md ops n s1 s2 x = true) : x < s1 ∧ s1 < s2 ∧ s2 < ops.size := by
  unfold relB2 at h
  simp only [Bool.and_eq_true, decide_eq_true_eq] at h
  omega
theorem relB2_s1 {n s1 s2 x : Nat} (h : relB2 md ops n s1 s2 x = true) {j : Nat} (hj : j < ops.size) (h1 : j ≠ s1) (h2 : j ≠ s2) (h3 : j ≠ x) : waitsU md ops j ops.size s1 = true := by
  unfold relB2 at h
  simp only [Bool.and_eq_true] at h
  have := List.all_eq_true.1 h.1.1.2 j (List.mem_range.2 hj)
  simpa [h1, h2, h3] using this
theorem relB2_s2 {n s1 s2 x : Nat} (h : relB2 md ops n s1 s2 x = true) {j : Nat} (hj : j < ops.size) (h2 : j ≠ s2) : waitsU md ops j ops.size s2 = true := by
  unfold relB2 at h
  simp only [Bool.and_eq_true] at h
  have := List.all_eq_true.1 h.1.2 j (List.mem_range.2 hj)
  simpa [h2] using this
theorem ready2 {n s1 s2 x : Nat} (hB : relB2 md ops n s1 s2 x = true) {listed : Array Bool} (hs : listed.size = ops.size) : ∀ k, k < ops.size → listed.getD k true = false → ∃ i, i ∈ Region.ready md ops listed := by
  intro k
  induction k using Nat.strongRecOn with
  | _ k ih =>
    intro hk hl
    obtain ⟨o, ho⟩ : ∃ o, ops[k]? = some o := ⟨ops[k], Array.getElem?_eq_getElem hk⟩
    obtain ⟨_, h2, _⟩ := relB2_op hB ho
    by_cases hall : ∀ e ∈ o.after, Region.binds md e = true → listed.getD e.on false = true
    · exact ⟨k, mem_ready.2 ⟨hl, o, ho, hall⟩⟩
    · obtain ⟨e, hne⟩ := Classical.not_forall.1 hall
      obtain ⟨he, hne⟩ := Classical.not_imp.1 hne
      obtain ⟨hb, hne⟩ := Classical.not_imp.1 hne
      have hlt := h2 e he hb
      refine ih e.on hlt (by omega) ?_
      have hsz : e.on < listed.size := by omega
      simp [hsz] at hne ⊢
      exact hne
theorem readyT {listed : Array Bool} (h : ∀ j, j < ops.size → listed.getD j true = true) : Region.ready md ops listed = [] := by
  cases hrd : Region.ready md ops listed with
  | nil => rfl
  | cons k l =>
    obtain ⟨h1, ok, hok, _⟩ := mem_ready.1 (show k ∈ Region.ready md ops listed by rw [hrd]; exact List.mem_cons_self)
    rw [h k (Array.getElem?_eq_some_iff.1 hok).1] at h1
    cases h1
theorem wpAny_done {fuel : Nat} {listed : Array Bool} {a : Act} {w : World} (h : ∀ j, j < ops.size → listed.getD j true = true) (hq : Q .normal a w) : wpAny P md ops Q fuel listed a w := by
  cases fuel with
  | zero => exact ⟨readyT h, hq⟩
  | succ f => exact ⟨fun _ => hq, by rw [readyT h]; intro j hj; cases hj⟩
theorem setT {listed : Array Bool} {i : Nat} (hl : listed.size = ops.size) (hi : i < ops.size) {p : Nat → Prop} (h : ∀ j, j < ops.size → j ≠ i → ¬ p j → listed.getD j true = true) : ∀ j, j < ops.size → ¬ p j → (listed.setIfInBounds i true).getD j true = true := fun j hj hp => by
  by_cases e : j = i
  · subst e
    have h2 : j < listed.size := by omega
    simp [h2]
  · rw [getD_set_ne true (Ne.symm e)]
    exact h j hj e hp
theorem wpAny_one {n s1 s2 x : Nat} (hB : relB2 md ops n s1 s2 x = true) {fuel : Nat} {listed : Array Bool} {a : Act} {w : World} {i : Nat} {o : Oper} (hl : listed.size = ops.size) (ho : ops[i]? = some o) (h : ∀ j, j < ops.size → j ≠ i → listed.getD j true = true) (hi : listed.getD i true = false)
    (hq : Oper.wp P o a w (Q .normal) Q) (hf : 1 ≤ fuel) : wpAny P md ops Q fuel listed a w := by
  cases fuel with
  | zero => omega
  | succ f =>
    have hlt : i < ops.size := (Array.getElem?_eq_some_iff.1 ho).1
    refine ⟨fun hr => ?_, fun k hk => ?_⟩
    · obtain ⟨k, hk⟩ := ready2 hB hl i hlt hi
      rw [hr] at hk
      cases hk
    · obtain ⟨h1, ok, hok, _⟩ := mem_ready.1 hk
      have hkl : k < ops.size := (Array.getElem?_eq_some_iff.1 hok).1
      have e : k = i := by
        by_cases e : k = i
        · exact e
        · rw [h k hkl e] at h1; cases h1
      subst e
      have hw : Region.wanted o (yielded ops a.tmps) = true := by simp [Region.wanted, (relB2_op hB ho).1]
      unfold wpOp
      simp only [ho, hw, if_true]
      exact .inl (Oper.wp_mono (fun a' w' hq => wpAny_done (fun j hj => setT (p := fun _ => False) hl hlt (fun j hj hji _ => h j hj hji) j hj id) hq) hq)
structure Twin (P : Program) (ops : Array Oper) (R : Nat → Value → World → Prop) (s1 s2 x p1 p2 : Nat) (d1 d2 : Tmp) : Prop where
  dst : ∀ i o, ops[i]? = some o → (i = p1 → o.dst = some d1) ∧ (i = p2 → o.dst = some d2)
  lt : p1 < ops.size ∧ p2 < ops.size ∧ p1 ≠ p2 ∧ p1 ≠ s1 ∧ p1 ≠ s2 ∧ p1 ≠ x ∧ p2 ≠ s1 ∧ p2 ≠ s2 ∧ p2 ≠ x
  old : ∀ i v w, i = p1 ∨ i = p2 → R i v w → ∃ b, v = .pointer (some ⟨b, 0, none⟩) ∧ b < w.heap.size
  new : ∀ i o ev w, ops[i]? = some o → i = p1 ∨ i = p2 → ∃ w', (execOp ev o).run P w = .ok (.value (.pointer (some ⟨w.heap.size, 0, none⟩))) w'
theorem wpAny_rel2 {n s1 s2 x p1 p2 : Nat} {d1 d2 : Tmp} {R : Nat → Value → World → Prop} {S : World → Prop} {a0 : Act} {w0 : World} (hn : a0.tmps.size = n) (hB : relB2 md ops n s1 s2 x = true)
    (hR : ∀ i v w w', R i v w → Up w w' → R i v w') (hS : ∀ w w', S w → Up w w' → S w') (hT : Twin P ops R s1 s2 x p1 p2 d1 d2)
    (hop : ∀ i o, ops[i]? = some o → i ≠ s1 → i ≠ s2 → ∀ ev w, S w → RelEv ops md R a0 o ev w → LeavesR P (R i) w ((execOp ev o).run P w))
    (hfin : ∀ a w, a.tmps.size = a0.tmps.size → a.defers = a0.defers → (∀ s, (∀ o' ∈ ops, o'.dst ≠ some s) → a.tmps[s]? = a0.tmps[s]?) → (∀ i o d, ops[i]? = some o → i ≠ s1 → i ≠ s2 → i ≠ x → o.dst = some d → R i (a.tmps.getD d undef) w) → a.tmps.getD d1 undef ≠ a.tmps.getD d2 undef → S w → Up w0 w →
      ∀ o1 o2 ox, ops[s1]? = some o1 → ops[s2]? = some o2 → ops[x]? = some ox →
        ((∀ d, ox.dst = some d → R x (a.tmps.getD d undef) w) → Oper.wp P o1 a w (fun a1 w1 => Oper.wp P o2 a1 w1 (Q .normal) Q) Q) ∧ Oper.wp P o1 a w (fun a1 w1 => Oper.wp P ox a1 w1 (fun a2 w2 => Oper.wp P o2 a2 w2 (Q .normal) Q) Q) Q) :
    ∀ (fuel : Nat) (listed : Array Bool) (a : Act) (w : World), leftU ops.size listed ≤ fuel → closedU md ops listed → listed.getD s1 true = false → listed.getD s2 true = false → RelInv ops R a0 listed a w → (listed.getD p1 true = true → listed.getD p2 true = true → a.tmps.getD d1 undef ≠ a.tmps.getD d2 undef) → S w → Up w0 w → wpAny P md ops Q fuel listed a w := by
  obtain ⟨tp1, tp2, tpp, t1a, t1b, t1c, t2a, t2b, t2c⟩ := hT.lt
  obtain ⟨hx1, h12, h2s⟩ := relB2_is hB
  obtain ⟨o1, ho1⟩ : ∃ o, ops[s1]? = some o := ⟨ops[s1], Array.getElem?_eq_getElem (by omega)⟩
  obtain ⟨o2, ho2⟩ : ∃ o, ops[s2]? = some o := ⟨ops[s2], Array.getElem?_eq_getElem (by omega)⟩
  obtain ⟨ox, hox⟩ : ∃ o, ops[x]? = some o := ⟨ops[x], Array.getElem?_eq_getElem (by omega)⟩
  intro fuel
  induction fuel with
  | zero =>
    intro listed a w hf hcl hs1 hs2 hI hJ hSw hu
    have := leftU_zero (listed := listed) (n := ops.size) (by omega) (j := s2) (by omega)
    rw [this] at hs2; cases hs2
  | succ fuel ih =>
    intro listed a w hf hcl hs1 hs2 hI hJ hSw hu
    refine ⟨fun hr => ?_, fun i hi => ?_⟩
    · obtain ⟨k, hk⟩ := ready2 hB hI.lsize s2 (by omega) hs2
      rw [hr] at hk
      cases hk
    · obtain ⟨hun, o, ho, hall⟩ := mem_ready.1 hi
      have hlt : i < ops.size := (Array.getElem?_eq_some_iff.1 ho).1
      obtain ⟨hg, _, hdn, hds⟩ := relB2_op hB ho
      have hw : Region.wanted o (yielded ops a.tmps) = true := by simp [Region.wanted, hg]
      have hwt : ∀ j, j < ops.size → waitsU md ops j ops.size i = true → listed.getD j true = true := fun j hj hwj => by
        have h1 := waitsU_spec hcl ops.size i o ho hall hwj
        have h2 : j < listed.size := by rw [hI.lsize]; exact hj
        simp [h2] at h1 ⊢
        exact h1
      have hdone : ∀ j oj d, ops[j]? = some oj → listed.getD j true = true → oj.dst = some d → R j (a.tmps.getD d undef) w := fun j oj d hoj hl hd => by
        refine hI.done j oj d hoj ?_ hd
        have h2 : j < listed.size := by rw [hI.lsize]; exact (Array.getElem?_eq_some_iff.1 hoj).1
        simp [h2] at hl ⊢
        exact hl
      unfold wpOp
      simp only [ho, hw, if_true]
      refine .inl ?_
      by_cases hi2 : i = s2
      · subst hi2
        have := hwt s1 (by omega) (relB2_s2 hB (by omega) (by omega))
        rw [this] at hs1; cases hs1
      · by_cases hi1 : i = s1
        · subst hi1
          rw [ho1] at ho
          obtain rfl := Option.some.inj ho
          have hz : ∀ j, j < ops.size → j ≠ i → j ≠ s2 → j ≠ x → listed.getD j true = true := fun j hj a1 a2 a3 => hwt j hj (relB2_s1 hB hj a1 a2 a3)
          have hF := hfin a w hI.size hI.defers hI.other (fun k ok d hok k1 k2 k3 hd => hdone k ok d hok (hz k (Array.getElem?_eq_some_iff.1 hok).1 k1 k2 k3) hd) (hJ (hz p1 tp1 t1a t1b t1c) (hz p2 tp2 t2a t2b t2c)) hSw hu o1 o2 ox ho1 ho2 hox
          have hlf := leftU_set (n := ops.size) (listed := listed) hlt hun
          have hl1 : (listed.setIfInBounds i true).size = ops.size := by simp [hI.lsize]
          have hs21 : (listed.setIfInBounds i true).getD s2 true = false := by rw [getD_set_ne true hi2]; exact hs2
          have hl2 := leftU_set (n := ops.size) (i := s2) (listed := listed.setIfInBounds i true) (by omega) hs21
          cases hlx : listed.getD x true with
          | true =>
            refine Oper.wp_mono (fun a1 w1 hq => ?_) (hF.1 fun d hd => hdone x ox d hox hlx hd)
            refine wpAny_one hB hl1 ho2 (fun j hj hne => setT (p := fun j => j = s2) hI.lsize hlt (fun j hj a1 a2 => ?_) j hj hne) hs21 hq (by omega)
            by_cases e : j = x
            · rw [e]; exact hlx
            · exact hz j hj a1 a2 e
          | false =>
            refine Oper.wp_mono (fun a1 w1 hq => ?_) hF.2
            have hsx : (listed.setIfInBounds i true).getD x true = false := by rw [getD_set_ne true (by omega)]; exact hlx
            obtain ⟨f, rfl⟩ : ∃ f, fuel = f + 1 := ⟨fuel - 1, by omega⟩
            have hcl1 := closedU_set hcl hi
            refine ⟨fun hr => ?_, fun k hk => ?_⟩
            · obtain ⟨k, hk⟩ := ready2 hB hl1 s2 (by omega) hs21
              rw [hr] at hk
              cases hk
            · obtain ⟨hkn, ok, hok, hallk⟩ := mem_ready.1 hk
              have hkl : k < ops.size := (Array.getElem?_eq_some_iff.1 hok).1
              have hk2 : k ≠ s2 := by
                rintro rfl
                have h1 := waitsU_spec hcl1 ops.size k ok hok hallk (relB2_s2 hB (j := x) (by omega) (by omega))
                rw [getD_set_ne false (show i ≠ x by omega)] at h1
                have h2 : x < listed.size := by rw [hI.lsize]; omega
                simp [h2] at h1 hlx
                rw [h1] at hlx; cases hlx
              have hki : k ≠ i := by
                rintro rfl
                have h2 : k < listed.size := by rw [hI.lsize]; exact hkl
                simp [h2] at hkn
              have hkx : k = x := by
                by_cases e : k = x
                · exact e
                · rw [getD_set_ne true (Ne.symm hki), hz k hkl hki hk2 e] at hkn; cases hkn
              subst hkx
              rw [hox] at hok
              obtain rfl := Option.some.inj hok
              have hwx : Region.wanted ox (yielded ops a1.tmps) = true := by simp [Region.wanted, (relB2_op hB hox).1]
              unfold wpOp
              simp only [hox, hwx, if_true]
              refine .inl (Oper.wp_mono (fun a2 w2 hq2 => ?_) hq)
              have hl3 := leftU_set (n := ops.size) (i := k) (listed := listed.setIfInBounds i true) (by omega) hsx
              have hs22 : ((listed.setIfInBounds i true).setIfInBounds k true).getD s2 true = false := by rw [getD_set_ne true hk2]; exact hs21
              have hl4 := leftU_set (n := ops.size) (i := s2) (listed := (listed.setIfInBounds i true).setIfInBounds k true) (by omega) hs22
              refine wpAny_one hB (by simp [hI.lsize]) ho2 (fun j hj hne => setT (p := fun j => j = s2) hl1 hkl (fun j hj a1 a2 => ?_) j hj hne) hs22 hq2 (by omega)
              exact setT (p := fun j => j = s2 ∨ j = k) hI.lsize hlt (fun j hj b1 b2 => hz j hj b1 (fun e => b2 (.inl e)) (fun e => b2 (.inr e))) j hj (fun e => e.elim a2 a1)
        · obtain ⟨d, hd, hdl, hdd⟩ := hds hi1 hi2
          have hev : RelEv ops md R a0 o a.eval w := by
            refine ⟨fun _ => rfl, fun _ => rfl, fun _ => rfl, fun s hs => ?_, fun j o' d' hj he hd' => ?_⟩
            · show a.tmps.getD s undef = a0.tmps.getD s undef
              rw [Array.getD_eq_getD_getElem?, Array.getD_eq_getD_getElem?, hI.other s hs]
            · obtain ⟨e, he, hb, rfl⟩ := he
              exact hI.done e.on o' d' hj (hall e he hb) hd'
          have h1 := hop i o ho hi1 hi2 a.eval w hSw hev
          have hne : ∀ v q c, q < ops.size → q ≠ i → (∀ oq, ops[q]? = some oq → oq.dst = some c) → (a.put o.dst v).tmps.getD c undef = a.tmps.getD c undef := fun v q c hq hqi hc => by
            have hne : d ≠ c := fun e => hdd q _ (Array.getElem?_eq_getElem hq) hqi (by rw [hc _ (Array.getElem?_eq_getElem hq), e])
            rw [hd, Array.getD_eq_getD_getElem?, Array.getD_eq_getD_getElem?]
            simp [Act.put, hne]
          have hown : ∀ v, (a.put o.dst v).tmps.getD d undef = v := fun v => by
            have hds : d < a.tmps.size := by rw [hI.size, hn]; exact hdl
            rw [hd]
            simp [Act.put, hds]
          have hnext : ∀ v w', R i v w' → Up w w' → (i = p1 ∨ i = p2 → v = .pointer (some ⟨w.heap.size, 0, none⟩)) → wpAny P md ops Q fuel (listed.setIfInBounds i true) (a.put o.dst v) w' := by
            intro v w' hv hu' hvp
            refine ih _ _ _ ?_ (closedU_set hcl hi) ?_ ?_ ?_ ?_ (hS _ _ hSw hu') (hu.trans hu')
            · have := leftU_set (n := ops.size) hlt hun; omega
            · rw [getD_set_ne true hi1]; exact hs1
            · rw [getD_set_ne true hi2]; exact hs2
            · refine ⟨by rw [hd]; exact hI.defers, by rw [hd]; simp [Act.put, hI.size], by simp [hI.lsize], fun s hs => ?_, fun j o' d' hj hl hd' => ?_⟩
              · have hne : d ≠ s := by
                  rintro rfl
                  obtain ⟨hx, hy⟩ := Array.getElem?_eq_some_iff.1 ho
                  exact hs o (by rw [← hy]; exact Array.getElem_mem hx) hd
                rw [← hI.other s hs, hd]
                simp [Act.put, hne]
              · by_cases hji : j = i
                · subst hji
                  rw [ho] at hj
                  obtain rfl := Option.some.inj hj
                  rw [hd] at hd'
                  obtain rfl := Option.some.inj hd'
                  rw [hown]
                  exact hv
                · rw [getD_set_ne false (Ne.symm hji)] at hl
                  rw [hne v j d' (Array.getElem?_eq_some_iff.1 hj).1 hji fun oq hoq => by rw [hj] at hoq; obtain rfl := Option.some.inj hoq; exact hd']
                  exact hR j _ _ _ (hI.done j o' d' hj hl hd') hu'
            · intro l1 l2
              have hold : ∀ q c, q = p1 ∨ q = p2 → q ≠ i → (∀ oq, ops[q]? = some oq → oq.dst = some c) → listed.getD q true = true → ∃ b, (a.put o.dst v).tmps.getD c undef = .pointer (some ⟨b, 0, none⟩) ∧ b < w.heap.size := fun q c hq hqi hc hlq => by
                have hqs : q < ops.size := by rcases hq with rfl | rfl <;> assumption
                rw [hne v q c hqs hqi hc]
                exact hT.old q _ _ hq (hdone q _ c (Array.getElem?_eq_getElem hqs) hlq (hc _ (Array.getElem?_eq_getElem hqs)))
              by_cases e1 : i = p1
              · subst e1
                rw [getD_set_ne true tpp] at l2
                obtain ⟨b, hb, hlb⟩ := hold p2 d2 (.inr rfl) (Ne.symm tpp) (fun oq hoq => (hT.dst p2 oq hoq).2 rfl) l2
                have hdd1 := (hT.dst i o ho).1 rfl
                rw [hd] at hdd1
                obtain rfl := Option.some.inj hdd1
                rw [hb, hown, hvp (.inl rfl)]
                intro e
                injection e with e; injection e with e; injection e with e
                omega
              · by_cases e2 : i = p2
                · subst e2
                  rw [getD_set_ne true (Ne.symm tpp)] at l1
                  obtain ⟨b, hb, hlb⟩ := hold p1 d1 (.inl rfl) tpp (fun oq hoq => (hT.dst p1 oq hoq).1 rfl) l1
                  have hdd2 := (hT.dst i o ho).2 rfl
                  rw [hd] at hdd2
                  obtain rfl := Option.some.inj hdd2
                  rw [hb, hown, hvp (.inr rfl)]
                  intro e
                  injection e with e; injection e with e; injection e with e
                  omega
                · rw [getD_set_ne true e1] at l1
                  rw [getD_set_ne true e2] at l2
                  rw [hne v p1 d1 tp1 (Ne.symm e1) fun oq hoq => (hT.dst p1 oq hoq).1 rfl, hne v p2 d2 tp2 (Ne.symm e2) fun oq hoq => (hT.dst p2 oq hoq).2 rfl]
                  exact hJ l1 l2
          have hnw : i = p1 ∨ i = p2 → ∃ w', (execOp a.eval o).run P w = .ok (.value (.pointer (some ⟨w.heap.size, 0, none⟩))) w' := fun e => hT.new i o a.eval w ho e
          unfold Oper.wp
          generalize (execOp a.eval o).run P w = r at *
          cases r with
          | halt x w' => exact h1.elim
          | ok nx w' =>
            cases nx with
            | value u => exact hnext u w' h1.1 h1.2 fun e => by obtain ⟨w2, h⟩ := hnw e; injection h with h; injection h
            | enter f args =>
              obtain ⟨hu', hc⟩ := h1
              refine Calls.mono hc fun e w'' he => ?_
              obtain ⟨hu2, v, rfl, hv⟩ := he
              exact hnext v w'' hv (hu'.trans hu2) fun e => by obtain ⟨w2, h⟩ := hnw e; injection h with h; cases h
            | _ => exact h1.elim
theorem wp_region_sp2 {id : Nat} {a0 : Act} {w0 : World} {n : Nat} (s1 s2 x p1 p2 : Nat) (d1 d2 : Tmp) (ds : List Tmp) (L : List SP) (S : World → Prop) (hm : P.follows .mixedOrders = true) (hn : a0.tmps.size = n) (hB : relB2 .any ops n s1 s2 x = true)
    (hds : dsB ops ds = true) (hS : ∀ w w', S w → Up w w' → S w') (h0 : S w0) (hT : Twin P ops (nthR L) s1 s2 x p1 p2 d1 d2)
    (hop : ∀ ev w, S w → ∀ i o, i ≠ s1 → i ≠ s2 → ops[i]? = some o → EvR ops L a0 i ev w → LeavesR P (nthR L i) w ((execOp ev o).run P w))
    (hfin : ∀ (g : Tmp → Value) w, (∀ i d, i ≠ s1 → i ≠ s2 → i ≠ x → dstB ops i d = true → nthR L i (g d) w) → g d1 ≠ g d2 → S w → Up w0 w →
      ∀ o1 o2 ox, ops[s1]? = some o1 → ops[s2]? = some o2 → ops[x]? = some ox →
        ((∀ d, ox.dst = some d → nthR L x (g d) w) → Oper.wp P o1 (putL a0 (ds.map fun d => (d, g d))) w (fun a1 w1 => Oper.wp P o2 a1 w1 (Q .normal) Q) Q) ∧
        Oper.wp P o1 (putL a0 (ds.map fun d => (d, g d))) w (fun a1 w1 => Oper.wp P ox a1 w1 (fun a2 w2 => Oper.wp P o2 a2 w2 (Q .normal) Q) Q) Q) :
    (Code.region id ops true).wp P Q a0 w0 := by
  refine wp_region_any hm (wpAny_rel2 (R := nthR L) (S := S) hn hB (fun i v w w' h hu => (L.getD i SP.any).up v w w' h hu) hS hT (fun i o hi h1 h2 ev w hSw hev => ?_) (fun a w hs hd ho hr hJ hSw hu => ?_) _ _ _ _ ?_ ?_ ?_ ?_ ?_ ?_ (hS _ _ h0 (Up.drew w0)) (Up.drew w0))
  · refine hop ev w hSw i o h1 h2 hi ⟨hev.const, hev.func, hev.global, fun s hs => hev.other s fun o' ho' => ?_, fun j d hj => ?_⟩
    · have := Array.all_eq_true_iff_forall_mem.1 hs o' ho'
      simpa using this
    · unfold depB at hj
      rw [hi] at hj
      cases hoj : ops[j]? with
      | none => rw [hoj] at hj; cases hj
      | some o' =>
        rw [hoj] at hj
        simp only [Bool.and_eq_true, Array.any_eq_true', beq_iff_eq] at hj
        obtain ⟨⟨e, he, hb, hon⟩, hd⟩ := hj
        exact hev.dep j o' d hoj ⟨e, he, hb, hon⟩ hd
  · have e := putL_eq (ds := ds) hs hd (fun s hs' => ho s fun o' hm he => hs' (by
      have := Array.all_eq_true_iff_forall_mem.1 hds o' hm
      simpa [he] using this))
    have h := hfin (fun d => a.tmps.getD d undef) w (fun i d h1 h2 h3 hd => by
      unfold dstB at hd
      cases ho : ops[i]? with
      | none => rw [ho] at hd; cases hd
      | some o' =>
        rw [ho] at hd
        exact hr i o' d ho h1 h2 h3 (by simpa using hd)) hJ hSw hu
    rw [← e] at h
    exact h
  · unfold leftU; exact Nat.le_trans (List.length_filter_le _ _) (by simp)
  · intro j oj hj hl
    have : j < ops.size := (Array.getElem?_eq_some_iff.1 hj).1
    simp [this] at hl
  · have := relB2_is hB
    have h : s1 < ops.size := by omega
    simp [h]
  · have := relB2_is hB
    have h : s2 < ops.size := by omega
    simp [h]
  · refine ⟨rfl, rfl, by simp, fun _ _ => rfl, fun i o d ho hl _ => ?_⟩
    have : i < ops.size := (Array.getElem?_eq_some_iff.1 ho).1
    simp [this] at hl
  · intro h1 _
    have := hT.lt.1
    simp [this] at h1
end
def tailV (g n c2 : Nat) : Value := .slice (some ⟨g, if c2 = 0 then 0 else 1, none⟩) n c2
theorem run_tail {ev : Operand → Value} {w : World} {d : Option Tmp} {s : Tmp} {ty : TypeId} {pos : String} {af : Array Edge} {gd : Option (Nat × Bool)} {g n c2 : Nat} (hc : n ≤ c2) (hx : ev (.tmp s) = .slice (some ⟨g, 0, none⟩) (n + 1) (c2 + 1)) (hk : ev (.const (.int .i64 1)) = .int .i64 1) :
    (execOp ev { dst := d, op := .slice 92 (.tmp s) (some (.const (.int .i64 1))) none none, type := ty, pos := pos, after := af, guard := gd }).run Tryz.prog w = .ok (.value (tailV g n c2)) w := by
  unfold tailV
  rcases c2 with _ | c2
  · obtain rfl : n = 0 := by omega
    go_simp
  · go_simp
    intro h
    omega
theorem rv_tail {w : World} {g n c2 : Nat} {C : Array Value} {L : List (List Int)} (hl : L.length = n + 1) (hc : n + 1 ≤ c2 + 1) (hB : Blk w g 38 C) (hE : ∀ i, i < L.length → ∃ s, C[i]? = some s ∧ Wv w s (L.getD i [])) : Rv w (tailV g n c2) (L.drop 1) := by
  unfold tailV
  by_cases h0 : c2 = 0
  · have hn : (L.drop 1) = [] := List.length_eq_zero_iff.1 (by rw [List.length_drop]; omega)
    exact .inl ⟨hn, _, _, by rw [show n = 0 by omega]⟩
  · rw [if_neg h0]
    exact Rz.tail hl hc hB hE
theorem OwnR.mono {w : World} {b b' : Nat} {v : Value} {L : List (List Int)} (h : OwnR w b v L) (hb : b' ≤ b) : OwnR w b' v L := by
  obtain ⟨xs, ⟨h0, h1⟩, h2⟩ := h
  refine ⟨xs, ⟨h0, ?_⟩, fun i hi => by obtain ⟨s, h5, h6⟩ := h2 i hi; exact ⟨s, h5, h6.1, fun a n c e hn => Nat.le_trans hb (h6.2 a n c e hn)⟩⟩
  rcases h1 with h1 | ⟨g', cap, cur, hv, hbb, hr⟩
  · exact .inl h1
  · exact .inr ⟨g', cap, cur, hv, Nat.le_trans hb hbb, hr⟩
theorem OwnR.grown {w w' : World} {b : Nat} {row : Option Nat} {v : Value} {L : List (List Int)} (h : OwnR w b v L) (hg : w.grownBy w' row) (hr : ∀ k, row = some k → k < b) : OwnR w' b v L := by
  have hk : ∀ {g : Nat} {t : TypeId} {C : Array Value}, Blk w g t C → b ≤ g → Blk w' g t C := fun {g t C} hB hb => by
    unfold Blk
    rw [hg.block g hB.lt (fun e => by have := hr g e.symm; omega)]
    exact hB
  obtain ⟨xs, ⟨h0, h1⟩, h2⟩ := h
  refine ⟨xs, ⟨h0, ?_⟩, fun i hi => ?_⟩
  · rcases h1 with h1 | ⟨g', cap, cur, hv, hbb, hB, hr⟩
    · exact .inl h1
    · exact .inr ⟨g', cap, cur, hv, hbb, hk hB hbb, hr⟩
  · obtain ⟨s, h5, h6, h7⟩ := h2 i hi
    refine ⟨s, h5, ?_, h7⟩
    rcases h6 with h6 | ⟨g', cap, C, hv, hc, hB, ht⟩
    · exact .inl h6
    · rcases Nat.eq_zero_or_pos (L.getD i []).length with h00 | h00
      · exact .inl ⟨List.length_eq_zero_iff.1 h00, _, _, by rw [hv, h00]⟩
      · exact .inr ⟨g', cap, C, hv, hc, hk hB (h7 _ _ _ hv h00), ht⟩
theorem OwnR.open {w : World} {b : Nat} {v : Value} {L : List (List Int)} (h : OwnR w b v L) (h0 : 0 < L.length) :
    ∃ g cap C, v = .slice (some ⟨g, 0, none⟩) L.length cap ∧ b ≤ g ∧ L.length ≤ cap ∧ Blk w g 38 C ∧ ∀ i, i < L.length → ∃ s, C[i]? = some s ∧ Wb w b s (L.getD i []) := by
  obtain ⟨xs, ⟨_, h1 | ⟨g, cap, cur, hv, hbb, hB, hc, _, _, ht⟩⟩, h2⟩ := h
  · omega
  · refine ⟨g, cap, cur, hv, hbb, hc, hB, fun i hi => ?_⟩
    obtain ⟨s, h3, h4⟩ := h2 i hi
    rw [← ht, List.getElem?_take_of_lt (by omega), Array.getElem?_toList] at h3
    exact ⟨s, h3, h4⟩
theorem OwnR.tail {w : World} {b g s c2 : Nat} {L : List (List Int)} (h : OwnR w b (.slice (some ⟨g, 0, none⟩) (s + 1) (c2 + 1)) L) (hl : L.length = s + 1) : Rv w (tailV g s c2) (L.drop 1) := by
  obtain ⟨g', cap, C, hv, _, hc, hB, hE⟩ := h.open (by omega)
  injection hv with e1 e2 e3
  injection e1 with e1
  injection e1 with e1
  subst e1 e3
  exact rv_tail hl (by omega) hB fun i hi => by obtain ⟨s, h1, h2⟩ := hE i hi; exact ⟨s, h1, h2.1⟩
theorem ewrong_any (n : Int) (h0 : n ≠ 0) (w : World) :
    Calls Tryz.prog 42 #[.int .i64 n] w fun r w' => ∃ u, r = .returned u ∧ Up w w' ∧ ErrsE w' u n := by
  have HW := hid (fun w => wrap_any (op := { data := #[101, 108, 105, 109] }) (v := .iface 90 (.int .i64 n)) (e := .num n) (w := w) rfl)
  go_enter Tryz.func42, Tryz.ntmps42
  go_wp2_with (first | (go_at_call 77; (with_reducible refine (HW.out _).mono ?_); rintro r w1 ⟨u1, rfl, hu1, h1⟩))
  go_ret
  obtain ⟨t, u, rfl⟩ := h1.iface
  exact ⟨_, rfl, hu1, .inr ⟨h0, t, u, rfl, h1⟩⟩
theorem Blk.below {a b : World} {g B : Nat} {t : TypeId} {C : Array Value} (hB : Blk a g t C) (h : Below B a b) (hg : g < B) : Blk b g t C := by
  unfold Blk
  rw [h.block g hg]
  exact hB
theorem Blk.grown {w w' : World} {g : Nat} {row : Option Nat} {t : TypeId} {C : Array Value} (hB : Blk w g t C) (hg : w.grownBy w' row) (hr : row ≠ some g) : Blk w' g t C := by
  unfold Blk
  rw [hg.block g hB.lt (fun e => hr e.symm)]
  exact hB
theorem wpL_folded {P : Program} {ops : Array Oper} {rest : List Oper} {Q : Exit → Act → World → Prop} {a : Act} {w : World} (R : World → Prop) (h : R w) (k : ∀ w', R w' → wpList P ops Q rest a w') : wpList P ops Q rest a w := k w h
set_option maxHeartbeats 8000000 in
theorem minors_any {v : Value} {N : Int} {l : List Int} {w : World} (hm : Sm w v N l) :
    Calls Tryz.prog 11 #[v] w fun r w' => ∃ z u, r = .returned (.tuple #[z, u]) ∧ Up w w' ∧ Wv w' z (mnR N l) ∧ ErrsE w' u (mnC N l) := by
  have HR := hid (fun w' (hu : Up w w') => sright_any (hm.up hu))
  have HWR := hid (fun w => ewrong_any 23 (by decide) w)
  have HSm := hid hm
  obtain ⟨s, rfl, ⟨p, cap, rfl, -, -⟩, -, -, -⟩ := hm
  obtain ⟨W0, hW0⟩ : ∃ W0, w.alloc (.cells #[.int .i64 N, .slice p l.length cap] 24) = W0 := ⟨_, rfl⟩
  have hB : Blk W0 w.heap.size 24 #[.int .i64 N, .slice p l.length cap] := by rw [← hW0]; exact Blk.new _ _ rfl
  have hU : Up w W0 := by rw [← hW0]; exact Up.alloc _ _
  cases hR : rt N l with
  | false =>
    have e : mnC N l = 23 := by unfold mnC; rw [hR]; rfl
    have e2 : mnR N l = [] := by unfold mnR; rw [hR]; rfl
    rw [e, e2]
    rw [hR] at HR
    clear e e2 hR
    go_enter Tryz.func11, Tryz.ntmps11
    go_wp2_with (first
      | ((with_reducible apply ldM_P); exact rfl; exact rfl; exact hB; exact rfl)
      | (go_at_call 41; (with_reducible refine (HR.out _ hU).mono ?_); rintro r w1 ⟨rfl, hu1⟩)
      | (go_at_call 42; (with_reducible refine (HWR.out _).mono ?_); rintro r w2 ⟨u2, rfl, hu2, h2⟩))
    go_ret2
    exact ⟨_, _, rfl, (hU.trans hu1).trans hu2, .inl ⟨rfl, none, 0, rfl⟩, h2⟩
  | true =>
    rw [hR] at HR
    obtain ⟨n0, n8, _, _⟩ := rt_spec hR
    obtain ⟨n, rfl⟩ : ∃ n : Nat, N = (n : Int) := ⟨N.toNat, by omega⟩
    have e : mnC n l = 0 := by unfold mnC; rw [hR]; rfl
    have e2 : mnR n l = mins n 1 (AM n l) := by unfold mnR; rw [hR, if_pos rfl]; rfl
    rw [e, e2]
    have HSQ := hid (fun w' (hu : Up w w') => square_any (HSm.out.up hu) hR)
    have HSt := hid (St.start hR)
    have HMt := hid (Mat.start n l)
    have HO1 := hid (fun w => of_any 1 (by decide) (by decide) w)
    have hn8 : n ≤ 8 := by omega
    obtain ⟨T, hT⟩ : ∃ T, mins n 1 (AM n l) = T := ⟨_, rfl⟩
    rw [hT]
    clear e e2 hR n0 n8
    unfold wideV at *
    go_enter Tryz.func11, Tryz.ntmps11
    go_wp2_with (first
      | ((with_reducible apply ldM_P); exact rfl; exact rfl; (first | exact hB | exact hB3); exact rfl)
      | (go_at_call 41; (with_reducible refine (HR.out _ hU).mono ?_); rintro r w1 ⟨rfl, hu1⟩; replace hB := hB.up hu1; replace hU := hU.trans hu1)
      | (go_at_call 43; (with_reducible refine (HO1.out _).mono ?_); rintro r w2 ⟨rfl, hu2⟩; have hsz1 := hU.size; have hsz2 := hu2.size)
      | ((with_reducible apply st_rowP infoW); exact rfl; exact rfl; exact row_newz _ rfl
         refine wpL_folded (fun wd => Up w2 wd ∧ Row wd w2.heap.size 33 16 (limb (enc 1))) ⟨gUp, gRow⟩ ?_
         rintro wL ⟨hXL, hLast⟩
         have hU2 := (hU.trans hu2).trans hXL
         have hB3 := (hB.up hu2).up hXL)
      | (go_at_call 44; (with_reducible refine (HSQ.out _ hU2).mono ?_); rintro r w3 ⟨z3, rfl, hu3, b3, hb3, hO3⟩; have hLast3 := hLast.up hu3; have hU3 := hU2.trans hu3; have hlt2 := hLast.lt))
    have hO3b := hO3.mono (show w2.heap.size + 1 ≤ b3 by omega)
    obtain ⟨pz, cz, rfl⟩ := hO3.slice
    obtain ⟨bL, hbL⟩ : ∃ y, w2.heap.size = y := ⟨_, rfl⟩
    rw [hbL] at hLast3 hO3b hlt2 ⊢
    have hwbL : w.heap.size ≤ bL := by omega
    have hInv : ∃ (k s : Nat) (q : Int) (M : Nat → Nat → Int) (L : List (List Int)) (done : List Int) (bR : Nat), s + k = n ∧ Mat s L M ∧ St q k M ∧ done ++ mins s q M = T ∧ OwnR w3 bR (.slice pz (sqE n l).length cz) L ∧ bL < bR ∧
        OwnW w3 (bL + 1) (.slice none 0 0) done ∧ (∀ g, (Value.slice none 0 0).ownBlock = some g → g < bR) ∧ Row w3 bL 33 16 (limb (enc q)) ∧ Up w w3 ∧ done.length + s ≤ 8 :=
      ⟨0, n, 1, AM n l, sqE n l, [], b3, by omega, HMt.out, HSt.out, hT, hO3, by omega, OwnW.nil _ _, fun g h => by simp [Value.ownBlock] at h, hLast3, hU3, by simp; omega⟩
    clear hO3 hO3b hLast3 hlt2 hb3 hu3 hU3 hU2 hB hB3 hU hu2 hu1 hXL hLast hW0 HSt HMt hT hbL hsz1 hsz2 HSQ HO1 HR HWR
    go_loopg [4, 6] (n + 1) (fun g tm tr wr => ∃ (k s : Nat) (q : Int) (M : Nat → Nat → Int) (L : List (List Int)) (done : List Int) (bR : Nat), s ≤ g ∧ s + k = n ∧ Mat s L M ∧ St q k M ∧ done ++ mins s q M = T ∧ OwnR wr bR tr L ∧ bL < bR ∧
        OwnW wr (bL + 1) tm done ∧ (∀ g, tm.ownBlock = some g → g < bR) ∧ Row wr bL 33 16 (limb (enc q)) ∧ Up w wr ∧ done.length + s ≤ 8)
    case atStart =>
      obtain ⟨k, s, q, M, L, done, bR, h1, h2⟩ := hInv
      exact ⟨k, s, q, M, L, done, bR, by omega, h1, h2⟩
    case round =>
      clear hInv
      obtain ⟨k, s, q, M, L, done, bR, hsg, hsk, hMat, hSt, hDone, hO, hbR, hOW, hob, hRow, hu, hdl⟩ := hrel
      obtain ⟨pm, cm, rfl⟩ := hOW.slice
      obtain ⟨pr, cr, rfl⟩ := hO.slice
      rw [hMat.1]
      rcases s with _ | s
      · have hDn : done = T := by rw [← hDone]; simp [mins]
        subst hDn
        clear hDone
        go_wp2_with fail
        go_ret2
        exact ⟨_, _, rfl, hu, hOW.wv, .inl ⟨rfl, rfl⟩⟩
      · obtain ⟨gR, cR, CR, hv, hgR, hcR, hBR, hE⟩ := hO.open (by rw [hMat.1]; omega)
        injection hv with x1 x2 x3
        subst x1 x3
        rw [hMat.1] at hcR
        obtain ⟨sF, hsF, hWF, hWFb⟩ := hE 0 (by rw [hMat.1]; omega)
        obtain ⟨hLF, hLFe⟩ := hMat.2 0 (by omega)
        obtain ⟨gF, cF, CF, hvF, hcF, hBF, htF⟩ := hWF.open (by rw [hLF]; omega)
        have HWv := hid (fun w' (hB : Blk w' gF 33 CF) => show Wv w' (.slice (some ⟨gF, 0, none⟩) (s + 1) cF) (L.getD 0 []) from .inr ⟨gF, cF, CF, by rw [hLF], hcF, hB, htF⟩)
        subst hvF
        have hgF : bR ≤ gF := hWFb _ _ _ rfl (by rw [hLF]; omega)
        rw [hLF] at hsF
        have hF00 : zth (L.getD 0 []) 0 = M 0 0 := hLFe 0 (by omega)
        have hRng : ∀ w', Blk w' gF 33 CF → w'.rangeAt gF 0 (wc (M 0 0)) := fun w' hB => by
          have h := wv_range hB htF (i := 0) (by rw [hLF]; omega)
          rw [hF00, Nat.zero_mul] at h
          exact h
        have HRng := hid hRng
        have hcx := hBR.cell 0 hsF
        have hk7 : k ≤ 7 := by omega
        have HSg := hid (fun w => sign_z (few_inR (k := 5) (by omega) (hSt.entry hk7 0 0)) w)
        unfold wideV at HSg
        have hlt := hRow.lt
        have hne : (Value.slice pm done.length cm).ownBlock ≠ some gF := fun e => by have := hob _ e; omega
        have hDl : done.length < 1000000 := by omega
        have HE := hid hE
        have hmn : mins (s + 1) q M = M 0 0 :: (if 0 < M 0 0 then mins s (M 0 0) (nxt q M) else []) := rfl
        rw [hmn] at hDone
        rw [hMat.1] at hO
        obtain ⟨c2, rfl⟩ : ∃ c2, cr = c2 + 1 := ⟨cr - 1, by omega⟩
        clear hmn hRng hF00 htF hLFe hWF hWFb hE x2 hcF
        have HMat := hid hMat
        have HSt := hid hSt
        have HDone := hid hDone
        have hL00 := hLF
        have HOb := hid hob
        have HO := hid hO
        clear hMat hSt hDone hob hO hsF hLF
        obtain ⟨m0, hm0⟩ : ∃ y, M 0 0 = y := ⟨_, rfl⟩
        have HM0 := hid hm0
        rw [hm0] at HRng HSg
        clear hm0
        by_cases hp : 0 < m0
        · have ds : decide (sgn m0 ≤ 0) = false := by unfold sgn; rw [decide_eq_false]; split <;> (try split) <;> omega
          go_wp2_with (first
            | ((with_reducible apply ldW_P); exact rfl; exact rfl; (first | exact HRng.out _ hBF | exact HRng.out _ hBF6))
            | ((with_reducible apply bsW_P); exact rfl)
            | ((with_reducible apply appW (l := done) (m := [m0])); exact rfl; exact rfl; exact OwnW.up (Up.alloc _ _) hOW; exact one_range rfl; (focus (simp; omega)); exact hDl; (focus (simp; done)); rintro v6 w6 hO6 hg6 hb6
               obtain ⟨p6, c6, rfl⟩ := hO6.slice
               have hBF6 := (hBF.up (Up.alloc _ _)).grown hg6 hne
               have hOR6 := (HO.out.up (Up.alloc _ _)).grown hg6 HOb.out
               have hRow6 : Row w6 bL 33 16 (limb (enc q)) := Blk.below (hRow.up (Up.alloc _ _)) hb6 (Nat.lt_succ_self _)
               have hu6 : Up w w6 := Below.trans (hu.trans (Up.alloc _ _)) (Below.mono hb6 (by omega)))
            | (go_at_call 47; (with_reducible refine (HSg.out _).mono ?_); rintro r w7 ⟨rfl, hu7⟩))
          have hF7 := hBF6.up hu7
          have hRow7 := hRow6.up hu7
          have hOR7 := hOR6.up hu7
          have hO7 := hO6.up hu7
          have hU7 := hu6.trans hu7
          obtain ⟨NX, hNX⟩ : ∃ y, ((L.drop 1).map fun R => tk (L.getD 0 []) R q s) = y := ⟨_, rfl⟩
          have HNX := hid hNX
          have HFW : Hid (∀ w', Up w7 w' → Calls Tryz.prog 46 #[.slice (some ⟨gF, 0, none⟩) (s + 1) cF, tailV gR s c2, .agg (cells 16 (limb (enc q)))] w' (fun e w'' => Up w' w'' ∧ ∃ v, e = .returned v ∧ (fun v w'' => ∃ b, w7.heap.size ≤ b ∧ OwnR w'' b v NX) v w'')) := hid (fun w' hu' => by
            have hf := fewer_any (q := q) (n := s) (HWv.out w' (hF7.up hu')) ((hOR7.up hu').tail HMat.out.1) hL00 HMat.out.rest (by omega) (by rw [List.length_drop, HMat.out.1]; omega) (HMat.out.few HSt.out hk7 0) (fun i => by rw [show (L.drop 1).getD i [] = L.getD (i + 1) [] from by rw [List.getD_eq_getElem?_getD, List.getD_eq_getElem?_getD, List.getElem?_drop, Nat.add_comm]]; exact HMat.out.few HSt.out hk7 (i + 1)) HSt.out.2.2 HSt.out.2.1
            unfold wideV at hf
            rw [hNX] at hf
            refine hf.mono fun _ _ h => ?_
            obtain ⟨z, rfl, hu, b, hb, hO⟩ := h
            exact ⟨hu, z, rfl, b, Nat.le_trans hu'.size hb, hO⟩)
          clear hNX
          go_wp2_with fail
          refine opU (S := (fun wq => Up w7 wq ∧ Below w.heap.size w wq)) (req := (fun j => j != 9)) (fun _ _ h hu => ⟨(h.1).trans hu, below_up (h.2) hu⟩) ⟨(by first | exact Up.refl _ | assumption), gUp⟩ (fun wS hSS hSu => ?_)
          have ⟨hS1, hSB⟩ := hSS
          refine tkP 0 (some 32) hSu ?_
          refine tkP 1 (some 33) hSu ?_
          refine tkO 2 (some 34) rfl hSu ?_ (hy := fun w' => run_tail (by omega) rfl rfl)
          refine tkT 3 (some 35) rfl hSu hSS ?_ (hy := fun w' hSw => run_ld undW infoW _ rfl _ rfl (hRow7.up hSw.1))
          refine tkP 5 (some 37) hSu ?_
          refine tkP 6 (some 38) hSu ?_
          refine tkT 7 (some 39) rfl hSu hSS ?_ (hy := fun w' hSw => run_ldW rfl rfl (HRng.out _ (hF7.up hSw.1)))
          refine wpAnyU_callE (i := 4) (d := (some 36)) rfl rfl (by kernel_rfl) (by rfl) hSu.out (fun w' => by go_simp) (fun w' hw' => (HFW.out w' (hS1.trans hw'))) fun vG wG hwG hRG => ?_
          try simp only [Act.put, pu1, pu2, pu3]
          obtain ⟨bN, hbN, hON⟩ := hRG
          obtain ⟨pN, cN, rfl⟩ := hON.slice
          refine tkP 8 (some 6) hSu ?_
          refine wpAnyU_one (i := 9) rfl (by kernel_rfl) (by rfl) fun wX hwX => ?_
          refine wp_st_rowN infoW rfl _ _ rfl _ rfl rfl ((hRow7.up ((hS1.trans hwG).trans hwX))) ?_
          refine ⟨fun h => by simp at h, ?_⟩
          try simp only [Act.put, pu1, pu2, pu3]
          refine wpAnyU_done (by kernel_rfl) (fun wF huE => ?_) _
          have hUG := (hS1.trans hwG).trans hwX
          have hltb := hRow7.lt
          have gRow := ((hRow7.up hUG).setRow (limb (enc m0))).up huE
          have gO := ((hON.up hwX).below (show bL < bN by omega) (cells 16 (limb (enc m0)))).up huE
          have gW := ((hO7.up hUG).below (Nat.lt_succ_self bL) (cells 16 (limb (enc m0)))).up huE
          have gU := Up.trans (below_setRow (hU7.trans hUG) hwbL (cells 16 (limb (enc m0)))) huE
          have gOb : ∀ g, (Value.slice p6 (done ++ [m0]).length c6).ownBlock = some g → g < bN := fun g h => by have := (World.ownsRow.lt hO7 g h).2; omega
          have gT : (done ++ [m0]) ++ mins s m0 (nxt q M) = T := by
            have h := HDone.out
            rw [HM0.out, if_pos hp] at h
            rw [List.append_assoc]
            exact h
          have gM : Mat s NX (nxt q M) := HNX.out ▸ HMat.out.next
          have gS : St m0 (k + 1) (nxt q M) := by
            have h := HSt.out.next hk7 (by rw [HM0.out]; omega)
            rw [HM0.out] at h
            exact h
          have gL : (done ++ [m0]).length = done.length + 1 := by rw [List.length_append, List.length_singleton]
          rw [gL] at gW gOb
          clear hS1 hSB hSS hwG hwX huE hON hUG
          go_wp2_with fail
          go_roundg s
          case measure => omega
          case rel => exact ⟨k + 1, s, m0, nxt q M, NX, done ++ [m0], bN, Nat.le_refl _, by omega, gM, gS, gT, gO, by omega, gW, gOb, gRow, gU, by rw [gL]; omega⟩
        · have ds : decide (sgn m0 ≤ 0) = true := by unfold sgn; rw [decide_eq_true]; split <;> (try split) <;> omega
          go_wp2_with (first
            | ((with_reducible apply ldW_P); exact rfl; exact rfl; (first | exact HRng.out _ hBF | exact HRng.out _ hBF6))
            | ((with_reducible apply bsW_P); exact rfl)
            | ((with_reducible apply appW (l := done) (m := [m0])); exact rfl; exact rfl; exact OwnW.up (Up.alloc _ _) hOW; exact one_range rfl; (focus (simp; omega)); exact hDl; (focus (simp; done)); rintro v6 w6 hO6 hg6 hb6
               obtain ⟨p6, c6, rfl⟩ := hO6.slice
               have hBF6 := (hBF.up (Up.alloc _ _)).grown hg6 hne
               have hu6 : Up w w6 := Below.trans (hu.trans (Up.alloc _ _)) (Below.mono hb6 (by omega)))
            | (go_at_call 47; (with_reducible refine (HSg.out _).mono ?_); rintro r w7 ⟨rfl, hu7⟩))
          go_ret2
          have hT : done ++ [m0] = T := by
            have h := HDone.out
            rw [HM0.out, if_neg (by omega)] at h
            exact h
          have hW := (hO6.up hu7).wv
          rw [List.length_append, List.length_singleton, hT] at hW
          exact ⟨_, _, rfl, hu6.trans hu7, hW, .inl ⟨rfl, rfl⟩⟩
theorem blkM_cell {w : World} {g i : Nat} {C : Array Value} {v : Value} (hB : Blk w g 49 C) (h : C[i]? = some v) : w.cell? ⟨g, i, none⟩ = some v := hB.cell i h
theorem wp_val {P : Program} {o : Oper} {a : Act} {w : World} {v : Value} {K : Act → World → Prop} {Q : Exit → Act → World → Prop} (h : (execOp a.eval o).run P w = .ok (.value v) w) (hK : K (a.put o.dst v) w) : Oper.wp P o a w K Q := by
  unfold Oper.wp
  rw [h]
  exact hK
set_option maxHeartbeats 16000000 in
theorem rstep_any {w : World} {base n m k i j B : Nat} {av pv : Value} {G : Nat → Nat} {V : Nat → Nat → Int} {q : Int} (h : OwnM w base av n m G V) (hp : Big w pv q) (hk : k < n) (hi : i < n) (hkm : k < m) (hj : j < m) (hn : n ≤ 8) (_ : m ≤ 9) (hB : B ≤ 100)
    (hq : q ≠ 0) (bq : q.natAbs < bp B) (b1 : (V k k).natAbs < bp B) (b2 : (V i j).natAbs < bp B) (b3 : (V i k).natAbs < bp B) (b4 : (V k j).natAbs < bp B) :
    Calls Tryz.prog 54 #[av, .int .i64 (k : Nat), .int .i64 (i : Nat), .int .i64 (j : Nat), pv] w fun r w' => Up w w' ∧ ∃ v, r = .returned v ∧ Big w' v ((V k k * V i j - V i k * V k j).tdiv q) := by
  obtain ⟨g, cap, C, rfl, -, -, hBg, hE⟩ := h.open (by omega)
  obtain ⟨ck, hCk⟩ := hE k hk
  obtain ⟨ci, hCi⟩ := hE i hi
  obtain ⟨Ck, bkk, akk, nkk, ckk, hBk, hsk, h1, h2, hkk⟩ := h.entry hk hkm
  obtain ⟨Ck', bkj, akj, nkj, ckj, hBk', -, h3, h4, hkj⟩ := h.entry hk hj
  obtain ⟨Ci, bij, aij, nij, cij, hBi, -, h5, h6, hij⟩ := h.entry hi hj
  obtain ⟨Ci', bik, aik, nik, cik, hBi', -, h7, h8, hik⟩ := h.entry hi hkm
  have e1 : Ck' = Ck := by unfold Blk at hBk hBk'; rw [hBk] at hBk'; simp at hBk'; exact hBk'.symm
  have e2 : Ci' = Ci := by unfold Blk at hBi hBi'; rw [hBi] at hBi'; simp at hBi'; exact hBi'.symm
  subst e1 e2
  obtain ⟨pb, pa, pn, pc, rfl⟩ := hp.shape
  have HCk := hid (fun w' (hB : Blk w' g 49 C) => blkM_cell hB hCk)
  have HCi := hid (fun w' (hB : Blk w' g 49 C) => blkM_cell hB hCi)
  have Hkk := hid (fun w' (hB : Blk w' (G k) 46 Ck') => bigAt_range hB h1 h2)
  have Hkj := hid (fun w' (hB : Blk w' (G k) 46 Ck') => bigAt_range hB h3 h4)
  have Hij := hid (fun w' (hB : Blk w' (G i) 46 Ci') => bigAt_range hB h5 h6)
  have Hik := hid (fun w' (hB : Blk w' (G i) 46 Ci') => bigAt_range hB h7 h8)
  have p1 : (V k k * V i j).natAbs < bp (B + B) := by rw [Int.natAbs_mul, bp_add]; exact Nat.mul_lt_mul_of_lt_of_lt b1 b2
  have p2 : (V i k * V k j).natAbs < bp (B + B) := by rw [Int.natAbs_mul, bp_add]; exact Nat.mul_lt_mul_of_lt_of_lt b3 b4
  have p3 : (V k k * V i j - V i k * V k j).natAbs < bp (B + B + 1) := by have e : bp (B + B + 1) = bp (B + B) * 18446744073709551616 := bp_succ (B + B); omega
  have HM1 := hid (fun (va vb : Value) (w : World) (ha : Big w va (V k k)) (hb : Big w vb (V i j)) => mul_big ha hb (nl_bp (k := B) (by omega) b1) (nl_bp (k := B) (by omega) b2))
  have HM2 := hid (fun (va vb : Value) (w : World) (ha : Big w va (V i k)) (hb : Big w vb (V k j)) => mul_big ha hb (nl_bp (k := B) (by omega) b3) (nl_bp (k := B) (by omega) b4))
  have HS := hid (fun (va vb : Value) (w : World) (ha : Big w va (V k k * V i j)) (hb : Big w vb (V i k * V k j)) => sub_big ha hb (nl_bp (k := B + B) (by omega) p1) (nl_bp (k := B + B) (by omega) p2))
  have HD := hid (fun (va vb : Value) (w : World) (ha : Big w va (V k k * V i j - V i k * V k j)) (hb : Big w vb q) => div_big2 ha hb (nl_bp (k := B + B + 1) (by omega) p3) (nl_bp (k := B) (by omega) bq) (by omega))
  obtain ⟨z1, hz1⟩ : ∃ z, V k k = z := ⟨_, rfl⟩
  obtain ⟨z2, hz2⟩ : ∃ z, V i j = z := ⟨_, rfl⟩
  obtain ⟨z3, hz3⟩ : ∃ z, V i k = z := ⟨_, rfl⟩
  obtain ⟨z4, hz4⟩ : ∃ z, V k j = z := ⟨_, rfl⟩
  rw [hz1] at hkk
  rw [hz2] at hij
  rw [hz3] at hik
  rw [hz4] at hkj
  rw [hz1, hz2] at HM1
  rw [hz3, hz4] at HM2
  rw [hz1, hz2, hz3, hz4] at HS HD ⊢
  clear hz1 hz2 hz3 hz4 h1 h2 h3 h4 h5 h6 h7 h8 b1 b2 b3 b4 p1 p2 p3 hBk' hBi' hCk hCi hE bq hsk hB
  obtain ⟨y1, hy1⟩ : ∃ z, z1 * z2 = z := ⟨_, rfl⟩
  rw [hy1] at HM1 HS HD ⊢
  obtain ⟨y2, hy2⟩ : ∃ z, z3 * z4 = z := ⟨_, rfl⟩
  rw [hy2] at HM2 HS HD ⊢
  obtain ⟨y3, hy3⟩ : ∃ z, y1 - y2 = z := ⟨_, rfl⟩
  rw [hy3] at HS HD ⊢
  obtain ⟨y4, hy4⟩ : ∃ z, y3.tdiv q = z := ⟨_, rfl⟩
  rw [hy4] at HD ⊢
  clear hy1 hy2 hy3 hy4 h
  obtain ⟨W0, hW0⟩ : ∃ W0, w.alloc (.cells #[.bool pb, .slice pa pn pc] 46) = W0 := ⟨_, rfl⟩
  have hBp : Blk W0 w.heap.size 46 #[.bool pb, .slice pa pn pc] := by rw [← hW0]; exact Blk.new _ _ rfl
  have hU : Up w W0 := by rw [← hW0]; exact Up.alloc _ _
  have hsW : W0.heap.size = w.heap.size + 1 := by rw [← hW0]; simp
  obtain ⟨W1, hW1⟩ : ∃ W1, W0.alloc (.cells #[.bool false, .slice none 0 0] 46) = W1 := ⟨_, rfl⟩
  have hBr : Blk W1 (w.heap.size + 1) 46 #[.bool false, .slice none 0 0] := by rw [← hW1]; exact Blk.new _ _ hsW.symm
  have hU1 : Up W0 W1 := by rw [← hW1]; exact Up.alloc _ _
  have hUw : Up w W1 := hU.trans hU1
  have hBq := hBp.up hU1
  go_enter Tryz.func54, Tryz.ntmps54
  go_upto_region 1 with fail
  clear hW0 hW1 hU hU1 hBp
  refine wp_region_sp2 (n := 50) 38 39 35 36 37 11 12 [14, 15, 16, 17, 18, 19, 20, 21, 22, 23, 24, 25, 26, 27, 28, 29, 30, 31, 32, 33, 34, 35, 36, 37, 38, 39, 40, 41, 42, 43, 44, 45, 46, 13, 47, 48, 11, 12] [SP.is (.slice (some ⟨g, 0, none⟩) n cap), SP.is (.int .i64 (k : Nat)), SP.is (.pointer (some ⟨g, k, none⟩)), SP.is (.slice (some ⟨G k, 0, none⟩) m ck), SP.is (.int .i64 (k : Nat)), SP.is (.pointer (some ⟨G k, k * 2, none⟩)), SP.is (.agg #[.bool bkk, .slice akk nkk ckk]), SP.is (.slice (some ⟨g, 0, none⟩) n cap), SP.is (.int .i64 (i : Nat)), SP.is (.pointer (some ⟨g, i, none⟩)), SP.is (.slice (some ⟨G i, 0, none⟩) m ci), SP.is (.int .i64 (j : Nat)), SP.is (.pointer (some ⟨G i, j * 2, none⟩)), SP.is (.agg #[.bool bij, .slice aij nij cij]), SP.of (fun v w1 => Big w1 v y1) (fun _ _ _ h hu => h.up hu), SP.is (.slice (some ⟨g, 0, none⟩) n cap), SP.is (.int .i64 (i : Nat)), SP.is (.pointer (some ⟨g, i, none⟩)), SP.is (.slice (some ⟨G i, 0, none⟩) m ci), SP.is (.int .i64 (k : Nat)), SP.is (.pointer (some ⟨G i, k * 2, none⟩)), SP.is (.agg #[.bool bik, .slice aik nik cik]), SP.is (.slice (some ⟨g, 0, none⟩) n cap), SP.is (.int .i64 (k : Nat)), SP.is (.pointer (some ⟨g, k, none⟩)), SP.is (.slice (some ⟨G k, 0, none⟩) m ck), SP.is (.int .i64 (j : Nat)), SP.is (.pointer (some ⟨G k, j * 2, none⟩)), SP.is (.agg #[.bool bkj, .slice akj nkj ckj]), SP.of (fun v w1 => Big w1 v y2) (fun _ _ _ h hu => h.up hu), SP.of (fun v w1 => Big w1 v y3) (fun _ _ _ h hu => h.up hu), SP.is (.agg #[.bool pb, .slice pa pn pc]), SP.of (fun v w1 => ∃ b1 a1 n1 c1 b2 a2 n2 c2, v = .tuple #[.agg #[.bool b1, .slice a1 n1 c1], .agg #[.bool b2, .slice a2 n2 c2]] ∧ Big w1 (.agg #[.bool b1, .slice a1 n1 c1]) y4) (fun _ _ _ h hu => (by obtain ⟨b1, a1, n1, c1, b2, a2, n2, c2, h1, h2⟩ := h; exact ⟨b1, a1, n1, c1, b2, a2, n2, c2, h1, h2.up hu⟩)), SP.of (fun v w1 => ∃ b1 a1 n1 c1 b2 a2 n2 c2, v = .tuple #[.agg #[.bool b1, .slice a1 n1 c1], .agg #[.bool b2, .slice a2 n2 c2]] ∧ Big w1 (.agg #[.bool b1, .slice a1 n1 c1]) y4) (fun _ _ _ h hu => (by obtain ⟨b1, a1, n1, c1, b2, a2, n2, c2, h1, h2⟩ := h; exact ⟨b1, a1, n1, c1, b2, a2, n2, c2, h1, h2.up hu⟩)), SP.of (fun v w1 => Big w1 v y4) (fun _ _ _ h hu => h.up hu), SP.of (fun v _ => ∃ b1 a1 n1 c1, v = .agg #[.bool b1, .slice a1 n1 c1]) (fun _ _ _ h hu => h), SP.of (fun v w1 => ∃ b, v = .pointer (some ⟨b, 0, none⟩) ∧ W1.heap.size ≤ b ∧ Blk w1 b 46 #[.bool false, .slice none 0 0]) (fun _ _ _ h hu => h.imp fun _ k => ⟨k.1, k.2.1, k.2.2.up hu⟩), SP.of (fun v w1 => ∃ b, v = .pointer (some ⟨b, 0, none⟩) ∧ W1.heap.size ≤ b ∧ Blk w1 b 46 #[.bool false, .slice none 0 0]) (fun _ _ _ h hu => h.imp fun _ k => ⟨k.1, k.2.1, k.2.2.up hu⟩), SP.any, SP.any] (fun wq => Blk wq w.heap.size 46 #[.bool pb, .slice pa pn pc] ∧ Up w wq ∧ Up W1 wq ∧ Below w.heap.size w wq) (by kernel_rfl) (by rfl) (by kernel_rfl) (by kernel_rfl) (fun _ _ h hu => ⟨(h.1).up hu, (h.2.1).trans hu, (h.2.2.1).trans hu, below_up (h.2.2.2) hu⟩) ⟨(by first | assumption | exact gBlk), (by first | exact Up.refl _ | assumption), (by first | exact Up.refl _ | assumption), gUp⟩ ⟨fun i o hi => ⟨by rintro rfl; obtain rfl := Option.some.inj (show some _ = some o from hi); rfl, by rintro rfl; obtain rfl := Option.some.inj (show some _ = some o from hi); rfl⟩, (by decide), (fun i v w hi h => by rcases hi with rfl | rfl <;> (obtain ⟨b, rfl, _, h2⟩ := h; exact ⟨b, rfl, h2.lt⟩)), (fun i o ev w hi hk => by rcases hk with rfl | rfl <;> (obtain rfl := Option.some.inj (show some _ = some o from hi); exact ⟨w.alloc (.cells #[.bool false, .slice none 0 0] 46), by go_simp⟩))⟩ (fun ev w9 hS9 i o hne1 hne2 hi hev => ?_) (fun gR wE hq hJ hSE huE o1 o2 ox ho1 ho2 hox => ?_)
  · have ⟨hS1, hS2, hS3, hSB⟩ := hS9
    have hcC := hev.const
    have hcF := hev.func
    have hcG := hev.global
    rcases i with _ | _ | _ | _ | _ | _ | _ | _ | _ | _ | _ | _ | _ | _ | _ | _ | _ | _ | _ | _ | _ | _ | _ | _ | _ | _ | _ | _ | _ | _ | _ | _ | _ | _ | _ | _ | _ | _ | _ | _ | i
    · obtain rfl := Option.some.inj (show some _ = some o from hi)
      have e0 := hev.other 0 (by kernel_rfl)
      simp [Act.eval] at e0
      exact leavesR_value (u := .slice (some ⟨g, 0, none⟩) n cap) (by first | (go_simp; done) | (go_simp; exact rfl)) rfl
    · obtain rfl := Option.some.inj (show some _ = some o from hi)
      have e1 := hev.other 1 (by kernel_rfl)
      simp [Act.eval] at e1
      exact leavesR_value (u := .int .i64 (k : Nat)) (by first | (go_simp; done) | (go_simp; exact rfl)) rfl
    · obtain rfl := Option.some.inj (show some _ = some o from hi)
      have e14 : ev (.tmp 14) = (.slice (some ⟨g, 0, none⟩) n cap) := hev.dep 0 14 (by kernel_rfl)
      have e15 : ev (.tmp 15) = (.int .i64 (k : Nat)) := hev.dep 1 15 (by kernel_rfl)
      exact leavesR_value (u := .pointer (some ⟨g, k, none⟩)) (by first | (go_simp; done) | (go_simp; exact rfl)) rfl
    · obtain rfl := Option.some.inj (show some _ = some o from hi)
      have e16 : ev (.tmp 16) = (.pointer (some ⟨g, k, none⟩)) := hev.dep 2 16 (by kernel_rfl)
      have hcx := HCk.out w9 (hBg.up hS2); exact leavesR_value (u := .slice (some ⟨G k, 0, none⟩) m ck) (by go_simp) rfl
    · obtain rfl := Option.some.inj (show some _ = some o from hi)
      have e1 := hev.other 1 (by kernel_rfl)
      simp [Act.eval] at e1
      exact leavesR_value (u := .int .i64 (k : Nat)) (by first | (go_simp; done) | (go_simp; exact rfl)) rfl
    · obtain rfl := Option.some.inj (show some _ = some o from hi)
      have e17 : ev (.tmp 17) = (.slice (some ⟨G k, 0, none⟩) m ck) := hev.dep 3 17 (by kernel_rfl)
      have e18 : ev (.tmp 18) = (.int .i64 (k : Nat)) := hev.dep 4 18 (by kernel_rfl)
      exact leavesR_value (u := .pointer (some ⟨G k, k * 2, none⟩)) (by first | (go_simp; done) | (go_simp; exact rfl)) rfl
    · obtain rfl := Option.some.inj (show some _ = some o from hi)
      have e19 : ev (.tmp 19) = (.pointer (some ⟨G k, k * 2, none⟩)) := hev.dep 5 19 (by kernel_rfl)
      exact leavesR_value (run_ldB2 rfl e19 (Hkk.out _ (hBk.up hS2))) rfl
    · obtain rfl := Option.some.inj (show some _ = some o from hi)
      have e0 := hev.other 0 (by kernel_rfl)
      simp [Act.eval] at e0
      exact leavesR_value (u := .slice (some ⟨g, 0, none⟩) n cap) (by first | (go_simp; done) | (go_simp; exact rfl)) rfl
    · obtain rfl := Option.some.inj (show some _ = some o from hi)
      have e2 := hev.other 2 (by kernel_rfl)
      simp [Act.eval] at e2
      exact leavesR_value (u := .int .i64 (i : Nat)) (by first | (go_simp; done) | (go_simp; exact rfl)) rfl
    · obtain rfl := Option.some.inj (show some _ = some o from hi)
      have e21 : ev (.tmp 21) = (.slice (some ⟨g, 0, none⟩) n cap) := hev.dep 7 21 (by kernel_rfl)
      have e22 : ev (.tmp 22) = (.int .i64 (i : Nat)) := hev.dep 8 22 (by kernel_rfl)
      exact leavesR_value (u := .pointer (some ⟨g, i, none⟩)) (by first | (go_simp; done) | (go_simp; exact rfl)) rfl
    · obtain rfl := Option.some.inj (show some _ = some o from hi)
      have e23 : ev (.tmp 23) = (.pointer (some ⟨g, i, none⟩)) := hev.dep 9 23 (by kernel_rfl)
      have hcx := HCi.out w9 (hBg.up hS2); exact leavesR_value (u := .slice (some ⟨G i, 0, none⟩) m ci) (by go_simp) rfl
    · obtain rfl := Option.some.inj (show some _ = some o from hi)
      have e3 := hev.other 3 (by kernel_rfl)
      simp [Act.eval] at e3
      exact leavesR_value (u := .int .i64 (j : Nat)) (by first | (go_simp; done) | (go_simp; exact rfl)) rfl
    · obtain rfl := Option.some.inj (show some _ = some o from hi)
      have e24 : ev (.tmp 24) = (.slice (some ⟨G i, 0, none⟩) m ci) := hev.dep 10 24 (by kernel_rfl)
      have e25 : ev (.tmp 25) = (.int .i64 (j : Nat)) := hev.dep 11 25 (by kernel_rfl)
      exact leavesR_value (u := .pointer (some ⟨G i, j * 2, none⟩)) (by first | (go_simp; done) | (go_simp; exact rfl)) rfl
    · obtain rfl := Option.some.inj (show some _ = some o from hi)
      have e26 : ev (.tmp 26) = (.pointer (some ⟨G i, j * 2, none⟩)) := hev.dep 12 26 (by kernel_rfl)
      exact leavesR_value (run_ldB2 rfl e26 (Hij.out _ (hBi.up hS2))) rfl
    · obtain rfl := Option.some.inj (show some _ = some o from hi)
      have e20 : ev (.tmp 20) = (.agg #[.bool bkk, .slice akk nkk ckk]) := hev.dep 6 20 (by kernel_rfl)
      have e27 : ev (.tmp 27) = (.agg #[.bool bij, .slice aij nij cij]) := hev.dep 13 27 (by kernel_rfl)
      refine leavesR_call ?_ (HM1.out _ _ _ (e20 ▸ hkk.up hS2) (e27 ▸ hij.up hS2))
      go_simp
    · obtain rfl := Option.some.inj (show some _ = some o from hi)
      have e0 := hev.other 0 (by kernel_rfl)
      simp [Act.eval] at e0
      exact leavesR_value (u := .slice (some ⟨g, 0, none⟩) n cap) (by first | (go_simp; done) | (go_simp; exact rfl)) rfl
    · obtain rfl := Option.some.inj (show some _ = some o from hi)
      have e2 := hev.other 2 (by kernel_rfl)
      simp [Act.eval] at e2
      exact leavesR_value (u := .int .i64 (i : Nat)) (by first | (go_simp; done) | (go_simp; exact rfl)) rfl
    · obtain rfl := Option.some.inj (show some _ = some o from hi)
      have e29 : ev (.tmp 29) = (.slice (some ⟨g, 0, none⟩) n cap) := hev.dep 15 29 (by kernel_rfl)
      have e30 : ev (.tmp 30) = (.int .i64 (i : Nat)) := hev.dep 16 30 (by kernel_rfl)
      exact leavesR_value (u := .pointer (some ⟨g, i, none⟩)) (by first | (go_simp; done) | (go_simp; exact rfl)) rfl
    · obtain rfl := Option.some.inj (show some _ = some o from hi)
      have e31 : ev (.tmp 31) = (.pointer (some ⟨g, i, none⟩)) := hev.dep 17 31 (by kernel_rfl)
      have hcx := HCi.out w9 (hBg.up hS2); exact leavesR_value (u := .slice (some ⟨G i, 0, none⟩) m ci) (by go_simp) rfl
    · obtain rfl := Option.some.inj (show some _ = some o from hi)
      have e1 := hev.other 1 (by kernel_rfl)
      simp [Act.eval] at e1
      exact leavesR_value (u := .int .i64 (k : Nat)) (by first | (go_simp; done) | (go_simp; exact rfl)) rfl
    · obtain rfl := Option.some.inj (show some _ = some o from hi)
      have e32 : ev (.tmp 32) = (.slice (some ⟨G i, 0, none⟩) m ci) := hev.dep 18 32 (by kernel_rfl)
      have e33 : ev (.tmp 33) = (.int .i64 (k : Nat)) := hev.dep 19 33 (by kernel_rfl)
      exact leavesR_value (u := .pointer (some ⟨G i, k * 2, none⟩)) (by first | (go_simp; done) | (go_simp; exact rfl)) rfl
    · obtain rfl := Option.some.inj (show some _ = some o from hi)
      have e34 : ev (.tmp 34) = (.pointer (some ⟨G i, k * 2, none⟩)) := hev.dep 20 34 (by kernel_rfl)
      exact leavesR_value (run_ldB2 rfl e34 (Hik.out _ (hBi.up hS2))) rfl
    · obtain rfl := Option.some.inj (show some _ = some o from hi)
      have e0 := hev.other 0 (by kernel_rfl)
      simp [Act.eval] at e0
      exact leavesR_value (u := .slice (some ⟨g, 0, none⟩) n cap) (by first | (go_simp; done) | (go_simp; exact rfl)) rfl
    · obtain rfl := Option.some.inj (show some _ = some o from hi)
      have e1 := hev.other 1 (by kernel_rfl)
      simp [Act.eval] at e1
      exact leavesR_value (u := .int .i64 (k : Nat)) (by first | (go_simp; done) | (go_simp; exact rfl)) rfl
    · obtain rfl := Option.some.inj (show some _ = some o from hi)
      have e36 : ev (.tmp 36) = (.slice (some ⟨g, 0, none⟩) n cap) := hev.dep 22 36 (by kernel_rfl)
      have e37 : ev (.tmp 37) = (.int .i64 (k : Nat)) := hev.dep 23 37 (by kernel_rfl)
      exact leavesR_value (u := .pointer (some ⟨g, k, none⟩)) (by first | (go_simp; done) | (go_simp; exact rfl)) rfl
    · obtain rfl := Option.some.inj (show some _ = some o from hi)
      have e38 : ev (.tmp 38) = (.pointer (some ⟨g, k, none⟩)) := hev.dep 24 38 (by kernel_rfl)
      have hcx := HCk.out w9 (hBg.up hS2); exact leavesR_value (u := .slice (some ⟨G k, 0, none⟩) m ck) (by go_simp) rfl
    · obtain rfl := Option.some.inj (show some _ = some o from hi)
      have e3 := hev.other 3 (by kernel_rfl)
      simp [Act.eval] at e3
      exact leavesR_value (u := .int .i64 (j : Nat)) (by first | (go_simp; done) | (go_simp; exact rfl)) rfl
    · obtain rfl := Option.some.inj (show some _ = some o from hi)
      have e39 : ev (.tmp 39) = (.slice (some ⟨G k, 0, none⟩) m ck) := hev.dep 25 39 (by kernel_rfl)
      have e40 : ev (.tmp 40) = (.int .i64 (j : Nat)) := hev.dep 26 40 (by kernel_rfl)
      exact leavesR_value (u := .pointer (some ⟨G k, j * 2, none⟩)) (by first | (go_simp; done) | (go_simp; exact rfl)) rfl
    · obtain rfl := Option.some.inj (show some _ = some o from hi)
      have e41 : ev (.tmp 41) = (.pointer (some ⟨G k, j * 2, none⟩)) := hev.dep 27 41 (by kernel_rfl)
      exact leavesR_value (run_ldB2 rfl e41 (Hkj.out _ (hBk.up hS2))) rfl
    · obtain rfl := Option.some.inj (show some _ = some o from hi)
      have e35 : ev (.tmp 35) = (.agg #[.bool bik, .slice aik nik cik]) := hev.dep 21 35 (by kernel_rfl)
      have e42 : ev (.tmp 42) = (.agg #[.bool bkj, .slice akj nkj ckj]) := hev.dep 28 42 (by kernel_rfl)
      refine leavesR_call ?_ (HM2.out _ _ _ (e35 ▸ hik.up hS2) (e42 ▸ hkj.up hS2))
      go_simp
    · obtain rfl := Option.some.inj (show some _ = some o from hi)
      have e28 : (fun v w1 => Big w1 v y1) (ev (.tmp 28)) w9 := hev.dep 14 28 (by kernel_rfl)
      dsimp only at e28
      obtain ⟨v28, hv28⟩ : ∃ v, ev (.tmp 28) = v := ⟨_, rfl⟩
      rw [hv28] at e28
      have e43 : (fun v w1 => Big w1 v y2) (ev (.tmp 43)) w9 := hev.dep 29 43 (by kernel_rfl)
      dsimp only at e43
      obtain ⟨v43, hv43⟩ : ∃ v, ev (.tmp 43) = v := ⟨_, rfl⟩
      rw [hv43] at e43
      refine leavesR_call ?_ (HS.out _ _ _ e28 e43)
      go_simp
    · obtain rfl := Option.some.inj (show some _ = some o from hi)
      have e9 := hev.other 9 (by kernel_rfl)
      simp [Act.eval] at e9
      exact leavesR_value (run_ldBR rfl (by go_simp) hS1 rfl) rfl
    · obtain rfl := Option.some.inj (show some _ = some o from hi)
      have e44 : (fun v w1 => Big w1 v y3) (ev (.tmp 44)) w9 := hev.dep 30 44 (by kernel_rfl)
      dsimp only at e44
      obtain ⟨v44, hv44⟩ : ∃ v, ev (.tmp 44) = v := ⟨_, rfl⟩
      rw [hv44] at e44
      have e45 : ev (.tmp 45) = (.agg #[.bool pb, .slice pa pn pc]) := hev.dep 31 45 (by kernel_rfl)
      refine leavesR_call ?_ ((HD.out _ _ _ e44 (e45 ▸ hp.up hS2)).mono fun _ _ h => ⟨h.1, by obtain ⟨_, v, h0, b1, a1, n1, c1, b2, a2, n2, c2, h1, h2, _⟩ := h; exact ⟨v, h0, b1, a1, n1, c1, b2, a2, n2, c2, h1, h2⟩⟩)
      go_simp
    · obtain rfl := Option.some.inj (show some _ = some o from hi)
      have e46 : (fun v w1 => ∃ b1 a1 n1 c1 b2 a2 n2 c2, v = .tuple #[.agg #[.bool b1, .slice a1 n1 c1], .agg #[.bool b2, .slice a2 n2 c2]] ∧ Big w1 (.agg #[.bool b1, .slice a1 n1 c1]) y4) (ev (.tmp 46)) w9 := hev.dep 32 46 (by kernel_rfl)
      dsimp only at e46
      obtain ⟨v46, hv46⟩ : ∃ v, ev (.tmp 46) = v := ⟨_, rfl⟩
      rw [hv46] at e46
      obtain ⟨b1, a1, n1, c1, b2, a2, n2, c2, rfl, h2⟩ := e46; exact leavesR_value (u := .tuple #[.agg #[.bool b1, .slice a1 n1 c1], .agg #[.bool b2, .slice a2 n2 c2]]) (by go_simp) ⟨_, _, _, _, _, _, _, _, rfl, h2⟩
    · obtain rfl := Option.some.inj (show some _ = some o from hi)
      have e13 : (fun v w1 => ∃ b1 a1 n1 c1 b2 a2 n2 c2, v = .tuple #[.agg #[.bool b1, .slice a1 n1 c1], .agg #[.bool b2, .slice a2 n2 c2]] ∧ Big w1 (.agg #[.bool b1, .slice a1 n1 c1]) y4) (ev (.tmp 13)) w9 := hev.dep 33 13 (by kernel_rfl)
      dsimp only at e13
      obtain ⟨v13, hv13⟩ : ∃ v, ev (.tmp 13) = v := ⟨_, rfl⟩
      rw [hv13] at e13
      obtain ⟨b1, a1, n1, c1, b2, a2, n2, c2, rfl, h2⟩ := e13; exact leavesR_value (u := .agg #[.bool b1, .slice a1 n1 c1]) (by go_simp) h2
    · obtain rfl := Option.some.inj (show some _ = some o from hi)
      have e13 : (fun v w1 => ∃ b1 a1 n1 c1 b2 a2 n2 c2, v = .tuple #[.agg #[.bool b1, .slice a1 n1 c1], .agg #[.bool b2, .slice a2 n2 c2]] ∧ Big w1 (.agg #[.bool b1, .slice a1 n1 c1]) y4) (ev (.tmp 13)) w9 := hev.dep 33 13 (by kernel_rfl)
      dsimp only at e13
      obtain ⟨v13, hv13⟩ : ∃ v, ev (.tmp 13) = v := ⟨_, rfl⟩
      rw [hv13] at e13
      obtain ⟨b1, a1, n1, c1, b2, a2, n2, c2, rfl, h2⟩ := e13; exact leavesR_value (u := .agg #[.bool b2, .slice a2 n2 c2]) (by go_simp) ⟨_, _, _, _, rfl⟩
    · obtain rfl := Option.some.inj (show some _ = some o from hi)
      exact leavesR_up (u := .pointer (some ⟨w9.heap.size, 0, none⟩)) (w' := w9.alloc (.cells #[.bool false, .slice none 0 0] 46)) (by go_simp) (Up.alloc _ _) ⟨_, rfl, hS3.size, Blk.new _ _ rfl⟩
    · obtain rfl := Option.some.inj (show some _ = some o from hi)
      exact leavesR_up (u := .pointer (some ⟨w9.heap.size, 0, none⟩)) (w' := w9.alloc (.cells #[.bool false, .slice none 0 0] 46)) (by go_simp) (Up.alloc _ _) ⟨_, rfl, hS3.size, Blk.new _ _ rfl⟩
    · exact absurd rfl hne1
    · exact absurd rfl hne2
    · exact absurd (show i + 40 < 40 from (Array.getElem?_eq_some_iff.1 hi).1) (by omega)
  have ⟨hS1, hS2, hS3, hSB⟩ := hSE
  have q0 : gR 14 = (.slice (some ⟨g, 0, none⟩) n cap) := hq 0 14 (by decide) (by decide) (by decide) (by kernel_rfl)
  have q1 : gR 15 = (.int .i64 (k : Nat)) := hq 1 15 (by decide) (by decide) (by decide) (by kernel_rfl)
  have q2 : gR 16 = (.pointer (some ⟨g, k, none⟩)) := hq 2 16 (by decide) (by decide) (by decide) (by kernel_rfl)
  have q3 : gR 17 = (.slice (some ⟨G k, 0, none⟩) m ck) := hq 3 17 (by decide) (by decide) (by decide) (by kernel_rfl)
  have q4 : gR 18 = (.int .i64 (k : Nat)) := hq 4 18 (by decide) (by decide) (by decide) (by kernel_rfl)
  have q5 : gR 19 = (.pointer (some ⟨G k, k * 2, none⟩)) := hq 5 19 (by decide) (by decide) (by decide) (by kernel_rfl)
  have q6 : gR 20 = (.agg #[.bool bkk, .slice akk nkk ckk]) := hq 6 20 (by decide) (by decide) (by decide) (by kernel_rfl)
  have q7 : gR 21 = (.slice (some ⟨g, 0, none⟩) n cap) := hq 7 21 (by decide) (by decide) (by decide) (by kernel_rfl)
  have q8 : gR 22 = (.int .i64 (i : Nat)) := hq 8 22 (by decide) (by decide) (by decide) (by kernel_rfl)
  have q9 : gR 23 = (.pointer (some ⟨g, i, none⟩)) := hq 9 23 (by decide) (by decide) (by decide) (by kernel_rfl)
  have q10 : gR 24 = (.slice (some ⟨G i, 0, none⟩) m ci) := hq 10 24 (by decide) (by decide) (by decide) (by kernel_rfl)
  have q11 : gR 25 = (.int .i64 (j : Nat)) := hq 11 25 (by decide) (by decide) (by decide) (by kernel_rfl)
  have q12 : gR 26 = (.pointer (some ⟨G i, j * 2, none⟩)) := hq 12 26 (by decide) (by decide) (by decide) (by kernel_rfl)
  have q13 : gR 27 = (.agg #[.bool bij, .slice aij nij cij]) := hq 13 27 (by decide) (by decide) (by decide) (by kernel_rfl)
  have q14 : (fun v w1 => Big w1 v y1) (gR 28) wE := hq 14 28 (by decide) (by decide) (by decide) (by kernel_rfl)
  dsimp only at q14
  obtain ⟨v28, hv28⟩ : ∃ v, gR 28 = v := ⟨_, rfl⟩
  rw [hv28] at q14
  have q15 : gR 29 = (.slice (some ⟨g, 0, none⟩) n cap) := hq 15 29 (by decide) (by decide) (by decide) (by kernel_rfl)
  have q16 : gR 30 = (.int .i64 (i : Nat)) := hq 16 30 (by decide) (by decide) (by decide) (by kernel_rfl)
  have q17 : gR 31 = (.pointer (some ⟨g, i, none⟩)) := hq 17 31 (by decide) (by decide) (by decide) (by kernel_rfl)
  have q18 : gR 32 = (.slice (some ⟨G i, 0, none⟩) m ci) := hq 18 32 (by decide) (by decide) (by decide) (by kernel_rfl)
  have q19 : gR 33 = (.int .i64 (k : Nat)) := hq 19 33 (by decide) (by decide) (by decide) (by kernel_rfl)
  have q20 : gR 34 = (.pointer (some ⟨G i, k * 2, none⟩)) := hq 20 34 (by decide) (by decide) (by decide) (by kernel_rfl)
  have q21 : gR 35 = (.agg #[.bool bik, .slice aik nik cik]) := hq 21 35 (by decide) (by decide) (by decide) (by kernel_rfl)
  have q22 : gR 36 = (.slice (some ⟨g, 0, none⟩) n cap) := hq 22 36 (by decide) (by decide) (by decide) (by kernel_rfl)
  have q23 : gR 37 = (.int .i64 (k : Nat)) := hq 23 37 (by decide) (by decide) (by decide) (by kernel_rfl)
  have q24 : gR 38 = (.pointer (some ⟨g, k, none⟩)) := hq 24 38 (by decide) (by decide) (by decide) (by kernel_rfl)
  have q25 : gR 39 = (.slice (some ⟨G k, 0, none⟩) m ck) := hq 25 39 (by decide) (by decide) (by decide) (by kernel_rfl)
  have q26 : gR 40 = (.int .i64 (j : Nat)) := hq 26 40 (by decide) (by decide) (by decide) (by kernel_rfl)
  have q27 : gR 41 = (.pointer (some ⟨G k, j * 2, none⟩)) := hq 27 41 (by decide) (by decide) (by decide) (by kernel_rfl)
  have q28 : gR 42 = (.agg #[.bool bkj, .slice akj nkj ckj]) := hq 28 42 (by decide) (by decide) (by decide) (by kernel_rfl)
  have q29 : (fun v w1 => Big w1 v y2) (gR 43) wE := hq 29 43 (by decide) (by decide) (by decide) (by kernel_rfl)
  dsimp only at q29
  obtain ⟨v43, hv43⟩ : ∃ v, gR 43 = v := ⟨_, rfl⟩
  rw [hv43] at q29
  have q30 : (fun v w1 => Big w1 v y3) (gR 44) wE := hq 30 44 (by decide) (by decide) (by decide) (by kernel_rfl)
  dsimp only at q30
  obtain ⟨v44, hv44⟩ : ∃ v, gR 44 = v := ⟨_, rfl⟩
  rw [hv44] at q30
  have q31 : gR 45 = (.agg #[.bool pb, .slice pa pn pc]) := hq 31 45 (by decide) (by decide) (by decide) (by kernel_rfl)
  have q32 : (fun v w1 => ∃ b1 a1 n1 c1 b2 a2 n2 c2, v = .tuple #[.agg #[.bool b1, .slice a1 n1 c1], .agg #[.bool b2, .slice a2 n2 c2]] ∧ Big w1 (.agg #[.bool b1, .slice a1 n1 c1]) y4) (gR 46) wE := hq 32 46 (by decide) (by decide) (by decide) (by kernel_rfl)
  dsimp only at q32
  obtain ⟨v46, hv46⟩ : ∃ v, gR 46 = v := ⟨_, rfl⟩
  rw [hv46] at q32
  have q33 : (fun v w1 => ∃ b1 a1 n1 c1 b2 a2 n2 c2, v = .tuple #[.agg #[.bool b1, .slice a1 n1 c1], .agg #[.bool b2, .slice a2 n2 c2]] ∧ Big w1 (.agg #[.bool b1, .slice a1 n1 c1]) y4) (gR 13) wE := hq 33 13 (by decide) (by decide) (by decide) (by kernel_rfl)
  dsimp only at q33
  obtain ⟨v13, hv13⟩ : ∃ v, gR 13 = v := ⟨_, rfl⟩
  rw [hv13] at q33
  have q34 : (fun v w1 => Big w1 v y4) (gR 47) wE := hq 34 47 (by decide) (by decide) (by decide) (by kernel_rfl)
  dsimp only at q34
  obtain ⟨v47, hv47⟩ : ∃ v, gR 47 = v := ⟨_, rfl⟩
  rw [hv47] at q34
  have q36 : (fun v w1 => ∃ b, v = .pointer (some ⟨b, 0, none⟩) ∧ W1.heap.size ≤ b ∧ Blk w1 b 46 #[.bool false, .slice none 0 0]) (gR 11) wE := hq 36 11 (by decide) (by decide) (by decide) (by kernel_rfl)
  dsimp only at q36
  obtain ⟨v11, hv11⟩ : ∃ v, gR 11 = v := ⟨_, rfl⟩
  rw [hv11] at q36
  have q37 : (fun v w1 => ∃ b, v = .pointer (some ⟨b, 0, none⟩) ∧ W1.heap.size ≤ b ∧ Blk w1 b 46 #[.bool false, .slice none 0 0]) (gR 12) wE := hq 37 12 (by decide) (by decide) (by decide) (by kernel_rfl)
  dsimp only at q37
  obtain ⟨v12, hv12⟩ : ∃ v, gR 12 = v := ⟨_, rfl⟩
  rw [hv12] at q37
  obtain rfl := Option.some.inj (show some _ = some o1 from ho1)
  obtain rfl := Option.some.inj (show some _ = some o2 from ho2)
  obtain rfl := Option.some.inj (show some _ = some ox from hox)
  rw [hv11, hv12] at hJ
  simp only [putL, List.map_cons, List.map_nil, q0, q1, q2, q3, q4, q5, q6, q7, q8, q9, q10, q11, q12, q13, hv28, q15, q16, q17, q18, q19, q20, q21, q22, q23, q24, q25, q26, q27, q28, hv43, hv44, q31, hv46, hv13, hv47, hv11, hv12, Act.put, pu1, pu2, pu3]
  clear hq hSE q0 q1 q2 q3 q4 q5 q6 q7 q8 q9 q10 q11 q12 q13 q15 q16 q17 q18 q19 q20 q21 q22 q23 q24 q25 q26 q27 q28 q31
  obtain ⟨b4, a4, m4, c4, rfl⟩ := q34.shape
  obtain ⟨z1, rfl, hz1, hBz1⟩ := q36
  obtain ⟨z2, rfl, hz2, hBz2⟩ := q37
  have hne : z2 ≠ z1 := fun e => hJ (by rw [e])
  have hsz : w.heap.size + 1 < W1.heap.size := hBr.lt
  have g1 := hBz1.setRow #[.bool b4, .slice a4 m4 c4]
  have g2 := big_set (D := #[.bool b4, .slice a4 m4 c4]) hBz1 q34
  have g3 := Blk.row_other hBz2 #[.bool b4, .slice a4 m4 c4] hne
  have g4 := Blk.row_other (hBr.up hS3) #[.bool b4, .slice a4 m4 c4] (show w.heap.size + 1 ≠ z1 by omega)
  have g5 : Up w _ := below_setRow hS2 (show w.heap.size ≤ z1 by omega) #[.bool b4, .slice a4 m4 c4]
  refine ⟨fun hx => ?_, ?_⟩
  · obtain ⟨b5, a5, m5, c5, h5⟩ := hx 48 rfl
    rw [h5]
    refine wp_stB rfl rfl rfl rfl hBz1 rfl rfl (one2 _ _ _ _) ?_
    refine wp_stB rfl rfl rfl rfl g3 rfl rfl (one2 _ _ _ _) ?_
    have k1 := Blk.row_other g1 #[.bool b5, .slice a5 m5 c5] (Ne.symm hne)
    have k2 := big_set (D := #[.bool b5, .slice a5 m5 c5]) g3 g2
    have k4 := Blk.row_other g4 #[.bool b5, .slice a5 m5 c5] (show w.heap.size + 1 ≠ z2 by omega)
    have k5 : Up w _ := below_setRow g5 (show w.heap.size ≤ z2 by omega) #[.bool b5, .slice a5 m5 c5]
    obtain ⟨wK, hwK⟩ : ∃ wK, (wE.setRow z1 #[.bool b4, .slice a4 m4 c4]).setRow z2 #[.bool b5, .slice a5 m5 c5] = wK := ⟨_, rfl⟩
    rw [hwK] at k1 k2 k4 k5 ⊢
    clear hwK g1 g2 g3 g4 g5 hS1 hS2 hS3 hSB huE hBz1 hBz2 q14 q29 q30 q32 q33 q34 hx
    go_wp2_with (first
      | ((with_reducible apply ldB_P); exact rfl; exact rfl; exact k1; exact rfl)
      | ((with_reducible apply stB_P); exact rfl; exact rfl; exact k4; exact rfl; exact rfl; exact one2 _ _ _ _
         refine wpL_folded (fun wd => Up w wd ∧ Blk wd (w.heap.size + 1) 46 #[.bool b4, .slice a4 m4 c4] ∧ Big wd (.agg #[.bool b4, .slice a4 m4 c4]) y4) ⟨below_setRow k5 (by omega) _, Blk.setRow k4 _, big_set k4 k2⟩ ?_
         rintro w6 ⟨j5, j4, j2⟩))
    exact bodyPost_ret (resB rfl rfl j4 rfl) rfl ⟨j5, _, rfl, j2⟩
  · obtain ⟨b1, a1, m1, c1, b2, a2, m2, c2, rfl, -⟩ := q33
    refine wp_stB rfl rfl rfl rfl hBz1 rfl rfl (one2 _ _ _ _) ?_
    refine wp_val (v := .agg #[.bool b2, .slice a2 m2 c2]) (by go_simp) ?_
    refine wp_stB rfl rfl rfl rfl g3 rfl rfl (one2 _ _ _ _) ?_
    have k1 := Blk.row_other g1 #[.bool b2, .slice a2 m2 c2] (Ne.symm hne)
    have k2 := big_set (D := #[.bool b2, .slice a2 m2 c2]) g3 g2
    have k4 := Blk.row_other g4 #[.bool b2, .slice a2 m2 c2] (show w.heap.size + 1 ≠ z2 by omega)
    have k5 : Up w _ := below_setRow g5 (show w.heap.size ≤ z2 by omega) #[.bool b2, .slice a2 m2 c2]
    obtain ⟨wK, hwK⟩ : ∃ wK, (wE.setRow z1 #[.bool b4, .slice a4 m4 c4]).setRow z2 #[.bool b2, .slice a2 m2 c2] = wK := ⟨_, rfl⟩
    rw [hwK] at k1 k2 k4 k5 ⊢
    clear hwK g1 g2 g3 g4 g5 hS1 hS2 hS3 hSB huE hBz1 hBz2 q14 q29 q30 q32 q34
    go_wp2_with (first
      | ((with_reducible apply ldB_P); exact rfl; exact rfl; exact k1; exact rfl)
      | ((with_reducible apply stB_P); exact rfl; exact rfl; exact k4; exact rfl; exact rfl; exact one2 _ _ _ _
         refine wpL_folded (fun wd => Up w wd ∧ Blk wd (w.heap.size + 1) 46 #[.bool b4, .slice a4 m4 c4] ∧ Big wd (.agg #[.bool b4, .slice a4 m4 c4]) y4) ⟨below_setRow k5 (by omega) _, Blk.setRow k4 _, big_set k4 k2⟩ ?_
         rintro w6 ⟨j5, j4, j2⟩))
    exact bodyPost_ret (resB rfl rfl j4 rfl) rfl ⟨j5, _, rfl, j2⟩
theorem rsign_big {v : Value} {z : Int} {w : World} (h : Big w v z) : Calls Tryz.prog 52 #[v] w fun r w' => r = .returned (.int .i64 (sgn z)) ∧ Up w w' := by
  obtain ⟨a, c, rfl, -⟩ := h
  rw [← sgn_big]
  exact bsign_any _ _ _ _ _
theorem OwnB.blk {w : World} {b : Nat} {v : Value} {l : List Int} (h : OwnB w b v l) : ∀ k, v.ownBlock = some k → b ≤ k ∧ k < w.heap.size ∧ ∃ C, Blk w k 46 C := by
  intro k hk
  obtain ⟨xs, hx, _⟩ := h
  have hlt := World.ownsRow.lt hx k hk
  obtain ⟨_, ⟨rfl, _⟩ | ⟨g', cap, cur, rfl, _, hB, _⟩⟩ := hx
  · simp [Value.ownBlock] at hk
  · simp [Value.ownBlock] at hk; subst hk; exact ⟨hlt.1, hlt.2, cur, hB⟩
theorem OwnB.lower {w : World} {b g : Nat} {v : Value} {l : List Int} {C : Array Value} (h : OwnB w b v l) (hC : Blk w g 46 C) (D : Array Value) (hg : g < b) : OwnB (w.setRow g D) b v l := by
  obtain ⟨xs, ⟨h0, h1⟩, h2⟩ := h
  refine ⟨xs, ⟨h0, ?_⟩, fun i hi => ?_⟩
  · rcases h1 with h1 | ⟨g', cap, cur, hv, hb, hB, hr⟩
    · exact .inl h1
    · exact .inr ⟨g', cap, cur, hv, hb, Blk.row_other (w := w) hB _ (by omega), hr⟩
  · obtain ⟨b', a, n, c, e1, e2, e3⟩ := h2 i hi
    exact ⟨b', a, n, c, e1, e2, e3.setRow hC⟩
theorem OwnM.otherB {w : World} {base n m p : Nat} {v : Value} {G : Nat → Nat} {V : Nat → Nat → Int} {C : Array Value} (h : OwnM w base v n m G V) (hC : Blk w p 46 C) (D : Array Value) (hp : ∀ i, i < n → G i ≠ p) : OwnM (w.setRow p D) base v n m G V := by
  obtain ⟨xs, ⟨h0, h1⟩, h2, h3, h4⟩ := h
  refine ⟨xs, ⟨h0, ?_⟩, h2, fun i hi => ⟨(h3 i hi).1, (h3 i hi).2.other hC _ (hp i hi)⟩, h4⟩
  rcases h1 with h1 | ⟨g', cap, cur, hv, hb, hB, hr⟩
  · exact .inl h1
  · refine .inr ⟨g', cap, cur, hv, hb, Blk.row_other (w := w) hB _ fun e => ?_, hr⟩
    subst e
    unfold Blk at hC
    rw [hC] at hB
    simp at hB
theorem OwnM.grownB {w w' : World} {base n m : Nat} {v : Value} {G : Nat → Nat} {V : Nat → Nat → Int} {row : Option Nat} (h : OwnM w base v n m G V) (hg : w.grownBy w' row) (hr : ∀ k, row = some k → (∃ C, Blk w k 46 C) ∧ ∀ i, i < n → G i ≠ k) : OwnM w' base v n m G V := by
  obtain ⟨xs, ⟨h0, h1⟩, h2, h3, h4⟩ := h
  refine ⟨xs, ⟨h0, ?_⟩, h2, fun i hi => ⟨(h3 i hi).1, ?_⟩, h4⟩
  · rcases h1 with h1 | ⟨g', cap, cur, hv, hb, hB, hq⟩
    · exact .inl h1
    · refine .inr ⟨g', cap, cur, hv, hb, Blk.grown hB hg fun e => ?_, hq⟩
      obtain ⟨C, hC⟩ := (hr g' e).1
      unfold Blk at hC
      rw [hC] at hB
      simp at hB
  · obtain ⟨C, e1, e2, e3⟩ := (h3 i hi).2
    refine ⟨C, e1.grown hg fun e => (hr _ e).2 i hi rfl, e2, fun j hj => ?_⟩
    obtain ⟨b, a, k, c, e4, e5, e6⟩ := e3 j hj
    exact ⟨b, a, k, c, e4, e5, e6.grown hg fun k hk => (hr k hk).1⟩
structure MI (w : World) (base bP bO n : Nat) (av : Value) (G : Nat → Nat) (b0 : Bool) (p0 : Option Addr) (n0 c0 : Nat) (q : Int) (tv : Value) (L : List Int) (V : Nat → Nat → Int) (wr : World) : Prop where
  m : OwnM wr base av n n G V
  p : Blk wr bP 46 #[.bool b0, .slice p0 n0 c0]
  q : Big wr (.agg #[.bool b0, .slice p0 n0 c0]) q
  l : OwnB wr bO tv L
  u : Below base w wr
theorem MI.up {w : World} {base bP bO n : Nat} {av : Value} {G : Nat → Nat} {b0 : Bool} {p0 : Option Addr} {n0 c0 : Nat} {q : Int} {tv : Value} {L : List Int} {V : Nat → Nat → Int} {wr wr' : World} (h : MI w base bP bO n av G b0 p0 n0 c0 q tv L V wr) (hu : Up wr wr') (hb : base ≤ w.heap.size) : MI w base bP bO n av G b0 p0 n0 c0 q tv L V wr' :=
  ⟨h.m.up hu, h.p.up hu, h.q.up hu, h.l.up hu, hu.below h.u (Nat.le_trans hb h.u.size)⟩
theorem MI.set {w : World} {base bP bO n : Nat} {av : Value} {G : Nat → Nat} {b0 : Bool} {p0 : Option Addr} {n0 c0 : Nat} {q : Int} {tv : Value} {L : List Int} {V : Nat → Nat → Int} {wr : World} (h : MI w base bP bO n av G b0 p0 n0 c0 q tv L V wr) {i j : Nat} (hi : i < n) (hj : j < n) (hG : ∀ q, q < n → G q < bP) (hPO : bP < bO)
    {C : Array Value} (hC : Blk wr (G i) 46 C) {b : Bool} {p : Option Addr} {k c : Nat} {z : Int} (hz : Big wr (.agg #[.bool b, .slice p k c]) z) :
    MI w base bP bO n av G b0 p0 n0 c0 q tv L (upd2 V i j z) (wr.setRow (G i) (splB C (j * 2) [.bool b, .slice p k c])) := by
  have hg := hG i hi
  have hb : base ≤ G i := by obtain ⟨_, _, _, h3, _⟩ := h.m; exact (h3 i hi).1
  exact ⟨(h.m.set hi hj hC hz).1, Blk.row_other h.p _ (by omega), h.q.setRow hC, h.l.lower hC _ (by omega), below_setRow h.u hb _⟩
def At1 (n k : Nat) (q : Int) (M : Nat → Nat → Int) (i j : Nat) (V : Nat → Nat → Int) : Prop :=
  ∀ r c, k ≤ r → r < n → k ≤ c → c < n → V r c = if k + 1 ≤ r ∧ k + 1 ≤ c ∧ (r < i ∨ r = i ∧ c < j) then nxt q M (r - (k + 1)) (c - (k + 1)) else M (r - k) (c - k)
theorem At1.start {n k : Nat} {q : Int} {M V : Nat → Nat → Int} (h : ∀ r c, k ≤ r → r < n → k ≤ c → c < n → V r c = M (r - k) (c - k)) : At1 n k q M (k + 1) (k + 1) V := fun r c h1 h2 h3 h4 => by
  rw [if_neg (by omega)]; exact h r c h1 h2 h3 h4
theorem At1.row {n k i : Nat} {q : Int} {M V : Nat → Nat → Int} (h : At1 n k q M i n V) : At1 n k q M (i + 1) (k + 1) V := fun r c h1 h2 h3 h4 => by
  rw [h r c h1 h2 h3 h4]
  by_cases e : k + 1 ≤ r ∧ k + 1 ≤ c ∧ (r < i ∨ r = i ∧ c < n)
  · rw [if_pos e, if_pos (by omega)]
  · rw [if_neg e, if_neg (by omega)]
theorem At1.all {n k : Nat} {q : Int} {M V : Nat → Nat → Int} (h : At1 n k q M n (k + 1) V) : ∀ r c, k + 1 ≤ r → r < n → k + 1 ≤ c → c < n → V r c = nxt q M (r - (k + 1)) (c - (k + 1)) := fun r c h1 h2 h3 h4 => by
  rw [h r c (by omega) h2 (by omega) h4, if_pos (by omega)]
theorem At1.old {n k i j : Nat} {q : Int} {M V : Nat → Nat → Int} (h : At1 n k q M i j V) {r c : Nat} (h1 : k ≤ r) (h2 : r < n) (h3 : k ≤ c) (h4 : c < n) (e : ¬ (k + 1 ≤ r ∧ k + 1 ≤ c ∧ (r < i ∨ r = i ∧ c < j))) : V r c = M (r - k) (c - k) := by
  rw [h r c h1 h2 h3 h4, if_neg e]
theorem At1.step {n k i j : Nat} {q : Int} {M V : Nat → Nat → Int} (h : At1 n k q M i j V) (hi : k + 1 ≤ i) (hin : i < n) (hj : k + 1 ≤ j) (hjn : j < n) : (V k k * V i j - V i k * V k j).tdiv q = nxt q M (i - (k + 1)) (j - (k + 1)) := by
  rw [h.old (r := k) (c := k) (by omega) (by omega) (by omega) (by omega) (by omega), h.old (r := i) (c := j) (by omega) (by omega) (by omega) (by omega) (by omega), h.old (r := i) (c := k) (by omega) (by omega) (by omega) (by omega) (by omega), h.old (r := k) (c := j) (by omega) (by omega) (by omega) (by omega) (by omega)]
  unfold nxt chio
  rw [Nat.sub_self, show i - (k + 1) + 1 = i - k by omega, show j - (k + 1) + 1 = j - k by omega]
theorem At1.set {n k i j : Nat} {q : Int} {M V : Nat → Nat → Int} (h : At1 n k q M i j V) (hi : k + 1 ≤ i) (hj : k + 1 ≤ j) : At1 n k q M i (j + 1) (upd2 V i j (nxt q M (i - (k + 1)) (j - (k + 1)))) := fun r c h1 h2 h3 h4 => by
  unfold upd2
  by_cases e : r = i ∧ c = j
  · rw [if_pos e, e.1, e.2, if_pos (by omega)]
  · rw [if_neg e, h r c h1 h2 h3 h4]
    by_cases e2 : k + 1 ≤ r ∧ k + 1 ≤ c ∧ (r < i ∨ r = i ∧ c < j)
    · rw [if_pos e2, if_pos (by omega)]
    · rw [if_neg e2, if_neg (by omega)]
theorem run_appRow {w : World} {base r n cap g c : Nat} {l : List Int} {b : Bool} {p : Option Addr} {m k : Nat} {z : Int} (ty : TypeId)
    (hown : OwnB w base (.slice (some ⟨r, 0, none⟩) n cap) l) (h0 : 0 < l.length) (hl : l.length < 1000000) (hV : w.rangeAt g 0 [.bool b, .slice p m k]) (hz : Big w (.agg #[.bool b, .slice p m k]) z) (hbase : base ≤ w.heap.size) :
    ∃ g' c' w', (Builtin.append_ #[49, 49] ty #[.slice (some ⟨r, 0, none⟩) n cap, .slice (some ⟨g, 0, none⟩) 1 c]).run Tryz.prog w = .ok (.slice (some ⟨g', 0, none⟩) (n + 1) c') w' ∧ OwnB w' base (.slice (some ⟨g', 0, none⟩) (n + 1) c') (l ++ [z]) ∧ w.grownBy w' (some r) ∧ (g' = r ∨ w.heap.size ≤ g') := by
  obtain ⟨i0, hi0, he⟩ := Option.map_eq_some_iff.1 infoBs
  simp only [Prod.mk.injEq] at he
  obtain ⟨xs, hx, hE⟩ := hown
  have hx' := hx
  obtain ⟨hxl, h1 | ⟨r1, cap1, cur, hv, hb, hB, hc, hmx, hs, ht⟩⟩ := hx'
  · omega
  injection hv with x1 x2 x3
  injection x1 with x1
  injection x1 with x1
  subst x1 x2 x3
  have hB' : Blk w r 46 cur := hB
  have hnews : ∀ j u, ([Value.bool b, .slice p m k] : List Value)[j]? = some u → w.cell? ((⟨g, 0, none⟩ : Addr).add j) = some u := fun j y hy => by rw [Addr.add_mid]; exact hV j y hy
  have hone : ∀ u ∈ ([Value.bool b, .slice p m k] : List Value), u.oneCell' = true := by simp [Value.oneCell']
  obtain ⟨v1, w1, hr, h2, h3, -⟩ := run_append_own (P := Tryz.prog) w base 49 ty 46 i0 _ 2 32 undBs hi0 he.1 he.2.1 he.2.2 rfl (by decide) _ _ xs hx ⟨g, 0, none⟩ 1 c [.bool b, .slice p m k] rfl hnews hone (by unfold maxLen; omega) (by omega) hbase
  have h2' := h2
  obtain ⟨hl2, h4 | ⟨g1, cap2, cur2, hv2, hb2, hB2, hc2, hm2, hs2, ht2⟩⟩ := h2'
  · omega
  subst hv2
  have hrow : ∀ q, (some r : Option Nat) = some q → ∃ C, Blk w q 46 C := fun q hq => by injection hq with hq; subst hq; exact ⟨cur, hB'⟩
  refine ⟨g1, cap2, w1, hr, ⟨xs ++ [.bool b, .slice p m k], by rw [List.length_append]; exact h2, fun i hi => ?_⟩, h3, ?_⟩
  · rw [List.length_append, List.length_singleton] at hi
    by_cases e : i < l.length
    · obtain ⟨b', a', n', c', h5, h6, h7⟩ := hE i e
      have ez : zth (l ++ [z]) i = zth l i := by unfold zth; rw [List.getD_eq_getElem?_getD, List.getD_eq_getElem?_getD, List.getElem?_append_left e]
      rw [ez]
      exact ⟨b', a', n', c', by dsimp only at h5 ⊢; rw [List.getElem?_append_left (by omega)]; exact h5, by dsimp only at h6 ⊢; rw [List.getElem?_append_left (by omega)]; exact h6, h7.grown h3 hrow⟩
    · obtain rfl : i = l.length := by omega
      have ez : zth (l ++ [z]) l.length = z := by unfold zth; rw [List.getD_eq_getElem?_getD, List.getElem?_append_right (Nat.le_refl _), Nat.sub_self]; rfl
      rw [ez]
      exact ⟨b, p, m, k, by dsimp only; rw [List.getElem?_append_right (by omega), hxl, Nat.sub_self]; rfl, by dsimp only; rw [List.getElem?_append_right (by omega), hxl, show l.length * 2 + 1 - l.length * 2 = 1 by omega]; rfl, hz.grown h3 hrow⟩
  · by_cases room : l.length + 1 ≤ cap
    · have hi2 : i0.size = 2 := he.2.1
      have h9 := run_append_room_cells (P := Tryz.prog) w 49 ty 46 i0 undBs hi0 r 0 l.length cap ⟨g, 0, none⟩ 1 c [.bool b, .slice p m k] (by rw [hi2]; rfl) hnews hone room (fun j hj => by
        rw [hi2, Nat.zero_add, cell_of_row _ _ _ _ _ _ hB]
        have : l.length * 2 + j < cur.size := by simp at hj; omega
        rw [Array.getElem?_eq_getElem this]; rfl) (fun j _ => hB'.frozen _)
      rw [h9] at hr
      injection hr with hr _
      injection hr with hr _ _
      injection hr with hr
      injection hr with hr _ _
      exact .inl hr.symm
    · obtain ⟨v3, w3, hr3, h10, -⟩ := run_append_arg_grows (P := Tryz.prog) w 49 ty 46 i0 _ 2 32 undBs hi0 he.1 he.2.1 he.2.2 rfl (by decide) ⟨r, 0, none⟩ l.length cap xs hxl (fun j u hj => by
        rw [Addr.add_mid, Nat.zero_add, cell_of_row _ _ _ _ _ _ hB, ← Array.getElem?_toList]
        rw [← ht] at hj
        have hjl : j < l.length * 2 := by
          rcases Nat.lt_or_ge j (l.length * 2) with h | h
          · exact h
          · rw [List.getElem?_eq_none (by rw [List.length_take]; omega)] at hj; cases hj
        rw [List.getElem?_take_of_lt hjl] at hj
        exact hj) ⟨g, 0, none⟩ 1 c [.bool b, .slice p m k] rfl hnews (by omega) (by unfold maxLen; omega) (by omega)
      rw [hr3] at hr
      injection hr with hr hw
      subst hr hw
      obtain ⟨_, h11 | ⟨g2, _, _, hv3, hb3, _⟩⟩ := h10
      · omega
      · injection hv3 with x1 _ _
        injection x1 with x1
        injection x1 with x1
        subst x1
        exact .inr hb3
theorem wp_appRow {o : Oper} {a : Act} {K : Act → World → Prop} {Q : Exit → Act → World → Prop} {w : World} {base r n cap g c : Nat} {l : List Int} {b : Bool} {p : Option Addr} {m k : Nat} {z : Int} (s u : Operand)
    (ho : o.op = .call { callee := .builtin .append, args := #[s, u], argTypes := #[49, 49] })
    (hs : a.eval s = .slice (some ⟨r, 0, none⟩) n cap) (hu : a.eval u = .slice (some ⟨g, 0, none⟩) 1 c) (hown : OwnB w base (.slice (some ⟨r, 0, none⟩) n cap) l) (h0 : 0 < l.length) (hl : l.length < 1000000) (hV : w.rangeAt g 0 [.bool b, .slice p m k]) (hz : Big w (.agg #[.bool b, .slice p m k]) z) (hbase : base ≤ w.heap.size)
    (h : ∀ g' c' w', OwnB w' base (.slice (some ⟨g', 0, none⟩) (n + 1) c') (l ++ [z]) → w.grownBy w' (some r) → (g' = r ∨ w.heap.size ≤ g') → K (a.put o.dst (.slice (some ⟨g', 0, none⟩) (n + 1) c')) w') : o.wp Tryz.prog a w K Q := by
  obtain ⟨g', c', w', hr, h1, h2, h3⟩ := run_appRow o.type hown h0 hl hV hz hbase
  unfold Oper.wp execOp
  simp only [ho, resolve, invoke, builtin, Sem.run_bind, Sem.run_pure, Result.andThen_ok, List.map_toArray, List.map_cons, List.map_nil, hs, hu]
  rw [hr]
  exact h _ _ _ h1 h2 h3
theorem OwnB.grownB {w w' : World} {r b : Nat} {v : Value} {l : List Int} {C : Array Value} (h : OwnB w b v l) (hg : w.grownBy w' (some r)) (hC : Blk w r 46 C) (hr : v.ownBlock ≠ some r) : OwnB w' b v l := by
  obtain ⟨xs, ⟨h0, h1⟩, h2⟩ := h
  have hrow : ∀ q, (some r : Option Nat) = some q → ∃ C, Blk w q 46 C := fun q hq => by injection hq with hq; subst hq; exact ⟨C, hC⟩
  refine ⟨xs, ⟨h0, ?_⟩, fun i hi => ?_⟩
  · rcases h1 with h1 | ⟨g, cap, cur, hv, hb, hB, hq⟩
    · exact .inl h1
    · subst hv
      exact .inr ⟨g, cap, cur, rfl, hb, Blk.grown hB hg (fun e => hr (by simp only [Value.ownBlock]; exact e.symm)), hq⟩
  · obtain ⟨b', a', n', c', e1, e2, e3⟩ := h2 i hi
    exact ⟨b', a', n', c', e1, e2, e3.grown hg hrow⟩
theorem Big.setMC {w : World} {g i : Nat} {C : Array Value} {v u : Value} {z : Int} (h : Big w v z) (hB : Blk w g 49 C) : Big (w.setCell ⟨g, i, none⟩ u) v z := by
  obtain ⟨a, c, h1, a2, c2, h2, h3, h4⟩ := h
  refine ⟨a, c, h1, a2, c2, h2, h3, fun h0 => ?_⟩
  obtain ⟨b, E, h5, h6, h7⟩ := h4 h0
  refine ⟨b, E, h5, h6.other _ _ fun e => ?_, h7⟩
  have e : b = g := e
  subst e
  unfold Blk at hB h6
  rw [hB] at h6
  simp at h6
theorem OwnB.setMC {w : World} {g i b : Nat} {C : Array Value} {v u : Value} {l : List Int} (h : OwnB w b v l) (hB : Blk w g 49 C) : OwnB (w.setCell ⟨g, i, none⟩ u) b v l := by
  obtain ⟨xs, ⟨h0, h1⟩, h2⟩ := h
  refine ⟨xs, ⟨h0, ?_⟩, fun i hi => ?_⟩
  · rcases h1 with h1 | ⟨g', cap, cur, hv, hb, hB', hq⟩
    · exact .inl h1
    · refine .inr ⟨g', cap, cur, hv, hb, Blk.other (w := w) hB' _ _ fun e => ?_, hq⟩
      have e : g' = g := e
      subst e
      unfold Blk at hB
      rw [hB] at hB'
      simp at hB'
  · obtain ⟨b', a', n', c', e1, e2, e3⟩ := h2 i hi
    exact ⟨b', a', n', c', e1, e2, e3.setMC hB⟩
theorem OwnG.push {w w' : World} {base n cA gA i g' c' : Nat} {mf G : Nat → Nat} {V : Nat → Nat → Int} (h : OwnG w base (.slice (some ⟨gA, 0, none⟩) n cA) n mf G V) (hi : i < n) (hbase : base ≤ w.heap.size)
    (hO : OwnB w' base (.slice (some ⟨g', 0, none⟩) (mf i + 1) c') (mk (mf i) (V i) ++ [V i (mf i)])) (hg : w.grownBy w' (some (G i))) (hn : g' = G i ∨ w.heap.size ≤ g') {w2 : World} (hu : Up w' w2) :
    OwnG (w2.setCell ⟨gA, i, none⟩ (.slice (some ⟨g', 0, none⟩) (mf i + 1) c')) base (.slice (some ⟨gA, 0, none⟩) n cA) n (fun r => if r = i then mf i + 1 else mf r) (fun r => if r = i then g' else G r) V ∧ w2.frozen? ⟨gA, i, none⟩ = false ∧ (∃ v, w2.cell? ⟨gA, i, none⟩ = some v) ∧ base ≤ gA := by
  have hRB := fun r (hr : r < n) => h.rowB hr
  obtain ⟨xs, Cp, ⟨h0, h1⟩, h2, h3, h4⟩ := h
  rcases h1 with h1 | ⟨g, cap, cur, hv, hb, hB, hc, hm, hs, ht⟩
  · omega
  injection hv with x1 _ x3
  injection x1 with x1
  injection x1 with x1
  subst x1 x3
  obtain ⟨Ci, hCi, -⟩ := hRB i hi
  have hB0 : Blk w gA 49 cur := hB
  have hne : gA ≠ G i := fun e => by
    rw [← e] at hCi
    unfold Blk at hB0 hCi
    rw [hB0] at hCi
    simp at hCi
  have hB1 : Blk w2 gA 49 cur := (Blk.grown hB0 hg (fun e => hne (by injection e with e; exact e.symm))).up hu
  have hci : i < cur.size := by omega
  refine ⟨⟨(cur.setIfInBounds i (.slice (some ⟨g', 0, none⟩) (mf i + 1) c')).toList.take (n * 1), fun r => if r = i then c' else Cp r, ⟨?_, .inr ⟨gA, cA, _, rfl, hb, hB1.set i _, hc, hm, by simp; omega, rfl⟩⟩, fun r hr => ?_, fun r hr => ?_, fun a b ha hb' e => ?_⟩, hB1.frozen i, ⟨_, by rw [cell_of_row _ _ _ _ _ _ hB1, Array.getElem?_eq_getElem hci]⟩, hb⟩
  · rw [List.length_take, Array.length_toList]; simp; omega
  · rw [List.getElem?_take_of_lt (by omega), Array.getElem?_toList, Array.getElem?_setIfInBounds]
    dsimp only
    by_cases e : r = i
    · subst e; rw [if_pos rfl, if_pos hci, if_pos rfl, if_pos rfl, if_pos rfl]
    · rw [if_neg (Ne.symm e), if_neg e, if_neg e, if_neg e]
      have h5 := h2 r hr
      rw [← ht, List.getElem?_take_of_lt (by omega), Array.getElem?_toList] at h5
      exact h5
  · dsimp only
    by_cases e : r = i
    · subst e
      rw [if_pos rfl, if_pos rfl, if_pos rfl]
      refine ⟨?_, by omega, ?_⟩
      · rcases hn with hn | hn
        · rw [hn]; exact (h3 r hr).1
        · omega
      · rw [mk_succ]
        exact (hO.up hu).setMC hB1
    · rw [if_neg e, if_neg e, if_neg e]
      obtain ⟨h5, h6, h7⟩ := h3 r hr
      exact ⟨h5, h6, ((h7.grownB hg hCi (fun e2 => e (h4 r i hr hi (by simp only [Value.ownBlock] at e2; injection e2)))).up hu).setMC hB1⟩
  · dsimp only at e
    by_cases e1 : a = i <;> by_cases e2 : b = i
    · omega
    · rw [if_pos e1, if_neg e2] at e
      have h5 := (hRB b hb').lt
      rcases hn with hn | hn
      · exact absurd (h4 i b hi hb' (by omega)) (Ne.symm e2)
      · omega
    · rw [if_neg e1, if_pos e2] at e
      have h5 := (hRB a ha).lt
      rcases hn with hn | hn
      · exact absurd (h4 a i ha hi (by omega)) e1
      · omega
    · rw [if_neg e1, if_neg e2] at e
      exact h4 a b ha hb' e
def Lead (s : Nat) (M : Nat → Nat → Int) (F : List Int) (M' : Nat → Nat → Int) : Prop :=
  F.length = s + 1 ∧ (∀ j, j < s + 1 → zth F j = M' 0 j) ∧ M' 0 0 ≠ 0 ∧ (M' = M ∨ ∃ i, i ≠ 0 ∧ i < s + 1 ∧ M' = add0 i M)
def detC (N : Int) (l : List Int) : Int := if rt N l then 0 else 23
def detV (N : Int) (l : List Int) : Int := if rt N l then det N.toNat (AM N.toNat l) else 0
def dfV (N : Int) (l : List Int) : Bool := (mnR N l).all (fun x => decide (0 < x)) && rt N l
theorem mnR_few {N : Int} {l : List Int} : ∀ i, i < (mnR N l).length → (zth (mnR N l) i).natAbs < bp 5 := by
  unfold mnR
  cases hR : rt N l with
  | false => intro i hi; exact absurd hi (Nat.not_lt_zero _)
  | true =>
    obtain ⟨n0, n8, _, _⟩ := rt_spec hR
    obtain ⟨n, rfl⟩ : ∃ n : Nat, N = (n : Int) := ⟨N.toNat, by omega⟩
    rw [if_pos rfl]
    have key : ∀ s k q M, s + k ≤ 8 → St q k M → ∀ i, i < (mins s q M).length → (zth (mins s q M) i).natAbs < bp 5 := by
      intro s
      induction s with
      | zero => intro k q M _ _ i hi; exact absurd hi (Nat.not_lt_zero _)
      | succ s ih =>
        intro k q M hk hs i hi
        have e : mins (s + 1) q M = M 0 0 :: (if 0 < M 0 0 then mins s (M 0 0) (nxt q M) else []) := rfl
        rw [e] at hi ⊢
        rcases i with _ | i
        · exact hs.entry (by omega) 0 0
        · by_cases hp : 0 < M 0 0
          · rw [if_pos hp] at hi ⊢
            exact ih (k + 1) _ _ (by omega) (hs.next (by omega) (by omega)) i (by simpa using hi)
          · rw [if_neg hp] at hi; simp at hi
    exact key n 0 1 _ (by omega) (by rw [show ((n : Int)).toNat = n by omega]; exact St.start hR)
theorem mnR_len {N : Int} {l : List Int} : (mnR N l).length ≤ 8 := by
  unfold mnR
  cases hR : rt N l with
  | false => simp
  | true =>
    obtain ⟨n0, n8, _, _⟩ := rt_spec hR
    rw [if_pos rfl]
    have := mins_len N.toNat 1 (AM N.toNat l)
    omega
set_option maxHeartbeats 8000000 in
theorem definite_any {v : Value} {N : Int} {l : List Int} {w : World} (hm : Sm w v N l) :
    Calls Tryz.prog 14 #[v] w fun r w' => r = .returned (.bool (dfV N l)) ∧ Up w w' := by
  have HMI := hid (fun w' (hu : Up w w') => minors_any (hm.up hu))
  obtain ⟨s, rfl, ⟨p, cap, rfl, -, -⟩, -, -, -⟩ := hm
  obtain ⟨W0, hW0⟩ : ∃ W0, w.alloc (.cells #[.int .i64 N, .slice p l.length cap] 24) = W0 := ⟨_, rfl⟩
  have hB : Blk W0 w.heap.size 24 #[.int .i64 N, .slice p l.length cap] := by rw [← hW0]; exact Blk.new _ _ rfl
  have hU : Up w W0 := by rw [← hW0]; exact Up.alloc _ _
  have HF := hid (mnR_few (N := N) (l := l))
  have HLn := hid (mnR_len (N := N) (l := l))
  obtain ⟨T, hT⟩ : ∃ T, mnR N l = T := ⟨_, rfl⟩
  obtain ⟨C, hC⟩ : ∃ C, mnC N l = C := ⟨_, rfl⟩
  obtain ⟨o, ho⟩ : ∃ o, dfV N l = o := ⟨_, rfl⟩
  have HOo : Hid (o = (T.all (fun x => decide (0 < x)) && decide (C = 0))) := hid (by
    rw [← ho, ← hT, ← hC]
    unfold dfV mnC
    cases rt N l <;> simp)
  rw [hT] at HMI HF HLn
  rw [hC] at HMI
  rw [ho]
  clear hT hC ho
  go_enter Tryz.func14, Tryz.ntmps14
  go_wp2_with (first
    | ((with_reducible apply ldM_P); exact rfl; exact rfl; exact hB; exact rfl)
    | (go_at_call 11; (with_reducible refine (HMI.out _ hU).mono ?_); rintro r w1 ⟨z1, u1, rfl, hu1, hW1, he1⟩; obtain ⟨p1, c1, rfl⟩ := hW1.slice))
  have hU1 := hU.trans hu1
  clear hW0 hu1 hB hU HMI
  go_loopg [14] (T.length + 1) (fun g ti wr => ∃ i : Nat, i ≤ T.length ∧ T.length - i ≤ g ∧ ti = .int .i64 (i : Nat) ∧ (∀ j, j < i → 0 < zth T j) ∧ Up w1 wr)
  case atStart => exact ⟨0, Nat.zero_le _, by omega, rfl, fun j hj => absurd hj (Nat.not_lt_zero _), Up.refl _⟩
  case round =>
    obtain ⟨i, hi, hig, rfl, hpos, hu⟩ := hrel
    have HPo := hid hpos
    clear hpos
    by_cases hlt : i < T.length
    · obtain ⟨g1, c9, C1, hv, hc9, hB1, ht1⟩ := hW1.open (by omega)
      injection hv with x1 x2 x3
      subst x1 x3
      have HR1 := hid (fun w' (hB : Blk w' g1 33 C1) => wv_range hB ht1 hlt)
      have HSg := hid (fun w => sign_z (few_inR (k := 5) (by omega) (HF.out i hlt)) w)
      have hBr := hB1.up hu
      have e1 : IntKind.i64.wrap ((i : Int) + 1) = (i : Int) + 1 := IntWalk.i64_in _ (by have := HLn.out; omega)
      unfold wideV at HSg
      clear ht1 x2 hc9
      obtain ⟨z, hz⟩ : ∃ z, zth T i = z := ⟨_, rfl⟩
      rw [hz] at HR1 HSg
      have HZ := hid hz
      clear hz
      by_cases hp : 0 < z
      · have ds : decide (sgn z ≤ 0) = false := by unfold sgn; rw [decide_eq_false]; split <;> (try split) <;> omega
        have HP := hid hp
        clear hp
        go_wp2_with (first
          | ((with_reducible apply ldW_P); exact rfl; exact rfl; exact HR1.out _ hBr)
          | ((with_reducible apply ld_rowP undW infoW); exact rfl; exact rfl; exact gRow)
          | ((with_reducible apply st_rowP infoW); exact rfl; exact rfl; exact row_newz _ rfl
             refine wpL_folded (fun wd => Up wr wd ∧ Row wd wr.heap.size 33 16 (limb (enc z))) ⟨gUp, gRow⟩ ?_
             rintro wL ⟨hXL, hRL⟩)
          | (go_at_call 47; (with_reducible refine (HSg.out _).mono ?_); rintro r w3 ⟨rfl, hu3⟩))
        go_roundg (T.length - (i + 1))
        case measure => omega
        case rel => exact ⟨i + 1, hlt, Nat.le_refl _, rfl, fun j hj => by
          rcases Nat.lt_succ_iff_lt_or_eq.1 hj with h | h
          · exact HPo.out j h
          · rw [h, HZ.out]; exact HP.out, hu.trans (hXL.trans hu3)⟩
      · have ds : decide (sgn z ≤ 0) = true := by unfold sgn; rw [decide_eq_true]; split <;> (try split) <;> omega
        have HP := hid hp
        clear hp
        go_wp2_with (first
          | ((with_reducible apply ldW_P); exact rfl; exact rfl; exact HR1.out _ hBr)
          | ((with_reducible apply ld_rowP undW infoW); exact rfl; exact rfl; exact gRow)
          | ((with_reducible apply st_rowP infoW); exact rfl; exact rfl; exact row_newz _ rfl
             refine wpL_folded (fun wd => Up wr wd ∧ Row wd wr.heap.size 33 16 (limb (enc z))) ⟨gUp, gRow⟩ ?_
             rintro wL ⟨hXL, hRL⟩)
          | (go_at_call 47; (with_reducible refine (HSg.out _).mono ?_); rintro r w3 ⟨rfl, hu3⟩))
        go_ret
        have ho : o = false := by
          rw [HOo.out, Bool.and_eq_false_iff]
          refine .inl (List.all_eq_false.2 ⟨z, ?_, by have := HP.out; simpa using this⟩)
          rw [← HZ.out, zth_get hlt]
          exact List.getElem_mem _
        exact ⟨by rw [ho]; rfl, hU1.trans (hu.trans (hXL.trans hu3))⟩
    · obtain rfl : i = T.length := by omega
      have hall : T.all (fun x => decide (0 < x)) = true := List.all_eq_true.2 fun x hx => by
        obtain ⟨j, hj, rfl⟩ := List.mem_iff_getElem.1 hx
        have := HPo.out j hj
        rw [zth_get hj] at this
        exact decide_eq_true this
      have hoo := HOo.out
      rw [hall, Bool.true_and] at hoo
      have HOO := hid hoo
      clear hoo hall
      rcases he1 with ⟨h0, rfl⟩ | ⟨h0, t, x, rfl, -⟩
      · have HO2 : Hid (o = true) := hid (by rw [HOO.out]; exact decide_eq_true h0)
        clear h0
        go_wp2_with fail
        go_ret
        exact ⟨by rw [HO2.out]; rfl, hU1.trans hu⟩
      · have HO2 : Hid (o = false) := hid (by rw [HOO.out]; exact decide_eq_false h0)
        clear h0
        go_wp2_with fail
        go_ret
        exact ⟨by rw [HO2.out]; rfl, hU1.trans hu⟩
def prd (v : Nat → Int) : Nat → Int
  | 0 => 1
  | k + 1 => prd v k * v k
def dgA (v : Nat → Int) (k : Nat) : Nat → Nat → Int := fun i j => if i = j ∧ i < k then v i else 0
theorem prd_head (v : Nat → Int) : ∀ n, prd v (n + 1) = v 0 * prd (fun i => v (i + 1)) n := by
  intro n
  induction n with
  | zero => show 1 * v 0 = v 0 * 1; omega
  | succ n ih =>
    show prd v (n + 1) * v (n + 1) = v 0 * (prd (fun i => v (i + 1)) n * v (n + 1))
    rw [ih, Int.mul_assoc]
theorem det_dg : ∀ (n : Nat) (v : Nat → Int), det n (dgA v n) = prd v n := by
  intro n
  induction n with
  | zero => intro v; rfl
  | succ n ih =>
    intro v
    rw [prd_head, ← ih]
    show sumN (n + 1) (fun i => sg i * dgA v (n + 1) i 0 * det n fun r c => dgA v (n + 1) (sk i r) (c + 1)) = _
    rw [sumN_one (p := 0) (by omega) fun i hi h0 => by
      have : dgA v (n + 1) i 0 = 0 := by unfold dgA; rw [if_neg (by omega)]
      rw [this, Int.mul_zero, Int.zero_mul]]
    have e1 : dgA v (n + 1) 0 0 = v 0 := by unfold dgA; rw [if_pos ⟨rfl, by omega⟩]
    have e2 : sg 0 = 1 := rfl
    rw [e1, e2, Int.one_mul]
    refine congrArg _ (det_congr fun r c hr hc => ?_)
    unfold dgA sk
    rw [if_neg (Nat.not_lt_zero r)]
    by_cases h : r = c
    · rw [if_pos ⟨by omega, by omega⟩, if_pos ⟨h, hr⟩]
    · rw [if_neg (by omega), if_neg (by omega)]
def Dg (n : Nat) (v : Nat → Int) (k : Nat) (l : List Int) : Prop := rt n l = true ∧ ∀ i j, i < n → j < n → ent n l i j = dgA v k i j
theorem Dg.det {n : Nat} {v : Nat → Int} {l : List Int} (h : Dg n v n l) : detV n l = prd v n ∧ detC n l = 0 := by
  refine ⟨?_, by unfold detC; rw [h.1]; rfl⟩
  unfold detV
  rw [h.1, if_pos rfl, ← det_dg]
  exact det_congr fun i j hi hj => (AM_at hi hj).trans (h.2 i j hi hj)
theorem det_zrow {n p : Nat} {A : Nat → Nat → Int} (hp : p < n) (h : ∀ c, A p c = 0) : det n A = 0 := by
  have h1 := det_lin hp A 0 0 (A p) (A p)
  have e : (fun c => 0 * A p c + 0 * A p c) = A p := by funext c; rw [h c]; rfl
  rw [e, updR_self] at h1
  omega
def e0 : Nat → Int := fun c => if c = 0 then 1 else 0
theorem det_e0 (n : Nat) (A : Nat → Nat → Int) : det (n + 1) (updR A 0 e0) = det n fun r c => A (r + 1) (c + 1) := by
  show sumN (n + 1) (fun i => sg i * updR A 0 e0 i 0 * det n fun r c => updR A 0 e0 (sk i r) (c + 1)) = _
  rw [sumN_one (p := 0) (by omega) fun i hi h0 => by
    rw [det_zrow (p := 0) (by omega) fun c => by
      have : sk i 0 = 0 := by unfold sk; rw [if_pos (by omega)]
      rw [this, updR_at]; rfl]
    rw [Int.mul_zero]]
  rw [updR_at]
  show (1 : Int) * 1 * _ = _
  rw [Int.one_mul, Int.one_mul]
  refine det_congr fun r c _ _ => ?_
  have : sk 0 r = r + 1 := by unfold sk; rw [if_neg (Nat.not_lt_zero r)]
  rw [this]
  unfold updR
  rw [if_neg (by omega)]
def one0 (A : Nat → Nat → Int) : Nat → Nat → Int := updR A 0 fun c => 1 * A 0 c + (1 - A 0 0) * e0 c
theorem one0_det (n : Nat) (A : Nat → Nat → Int) : det (n + 1) (one0 A) = det (n + 1) A + (1 - A 0 0) * det n fun r c => A (r + 1) (c + 1) := by
  unfold one0
  rw [det_lin (by omega), updR_self, det_e0, Int.one_mul]
theorem one0_at (A : Nat → Nat → Int) (i j : Nat) : one0 A i j = if i = 0 ∧ j = 0 then 1 else A i j := by
  unfold one0 updR e0
  by_cases hi : i = 0
  · subst hi
    by_cases hj : j = 0
    · subst hj; simp; omega
    · simp [hj]
  · simp [hi]
theorem det_turn : ∀ (n : Nat) (A : Nat → Nat → Int), (det n fun i j => A j i) = det n A := by
  intro n
  induction n with
  | zero => intro A; rfl
  | succ n ih =>
    intro A
    have h1 := one0_det n A
    have h2 := one0_det n fun i j => A j i
    have h3 := ih fun r c => A (r + 1) (c + 1)
    have h4 := det_chio n (one0 A)
    have h5 := det_chio n (one0 fun i j => A j i)
    rw [show one0 A 0 0 = 1 from by rw [one0_at]; rfl, Int.one_pow, Int.one_mul, Int.one_mul] at h4
    rw [show one0 (fun i j => A j i) 0 0 = 1 from by rw [one0_at]; rfl, Int.one_pow, Int.one_mul, Int.one_mul] at h5
    have h6 : det n (chio (one0 fun i j => A j i)) = det n (chio (one0 A)) := by
      rw [← ih (chio (one0 A))]
      refine det_congr fun i j _ _ => ?_
      have hc : ∀ i j, one0 (fun i j => A j i) i j = one0 A j i := fun i j => by
        rw [one0_at, one0_at]
        by_cases h : i = 0 ∧ j = 0
        · rw [if_pos h, if_pos ⟨h.2, h.1⟩]
        · rw [if_neg h, if_neg fun x => h ⟨x.2, x.1⟩]
      unfold chio
      rw [hc, hc, hc, hc, Int.mul_comm (one0 A 0 (i + 1))]
    have h7 : (det n fun r c => (fun i j => A j i) (r + 1) (c + 1)) = det n fun r c => A (r + 1) (c + 1) := h3
    rw [h7] at h2
    show det (n + 1) (fun i j => A j i) = _
    have h8 : (1 - (fun i j => A j i) 0 0) = 1 - A 0 0 := rfl
    rw [h8] at h2
    omega
def exch (a b i : Nat) : Nat := if i = a then b else if i = b then a else i
theorem exch_lt {a b n i : Nat} (ha : a < n) (hb : b < n) (hi : i < n) : exch a b i < n := by unfold exch; split <;> (try split) <;> omega
theorem exch_back (a b i : Nat) : exch a b (exch a b i) = i := by
  unfold exch
  by_cases h1 : i = a
  · rw [if_pos h1]
    by_cases h2 : b = a
    · rw [if_pos h2]; omega
    · rw [if_neg h2, if_pos rfl]; omega
  · rw [if_neg h1]
    by_cases h2 : i = b
    · rw [if_pos h2, if_pos rfl]; omega
    · rw [if_neg h2, if_neg h1, if_neg h2]
def prodN : Nat → (Nat → Nat) → Nat
  | 0, _ => 1
  | n + 1, f => f 0 * prodN n fun i => f (i + 1)
theorem det_cols : ∀ {n : Nat} {A : Nat → Nat → Int} {m : Nat → Nat}, (∀ i j, i < n → j < n → (A i j).natAbs ≤ m j) → (det n A).natAbs ≤ fct n * prodN n m := by
  intro n
  induction n with
  | zero => intro A m _; simp [det, fct, prodN]
  | succ n ih =>
    intro A m h
    have h1 : (det (n + 1) A).natAbs ≤ (n + 1) * (m 0 * (fct n * prodN n fun j => m (j + 1))) := sumN_abs fun i hi => by
      have := ih (A := fun r c => A (sk i r) (c + 1)) (m := fun j => m (j + 1)) fun r c hr hc => h _ _ (sk_lt hr) (by omega)
      rw [Int.natAbs_mul, Int.natAbs_mul, show (sg i).natAbs = 1 from by unfold sg; split <;> rfl, Nat.one_mul]
      exact Nat.mul_le_mul (h i 0 hi (by omega)) this
    rw [show fct (n + 1) * prodN (n + 1) m = (n + 1) * (m 0 * (fct n * prodN n fun j => m (j + 1))) from by
      rw [show fct (n + 1) = (n + 1) * fct n from rfl, show prodN (n + 1) m = m 0 * prodN n fun j => m (j + 1) from rfl]; grind]
    exact h1
def cb (n j : Nat) : Nat := if j = n then 72057594037927936 else 1073741824
theorem prod_none : ∀ (r n : Nat) (C : Nat → Nat), (∀ a, a < r → C a ≠ n) → prodN r (fun j => cb n (C j)) = 1073741824 ^ r := by
  intro r
  induction r with
  | zero => intro n C _; rfl
  | succ r ih =>
    intro n C h
    show cb n (C 0) * prodN r (fun j => cb n (C (j + 1))) = _
    rw [ih n (fun j => C (j + 1)) fun a ha => h (a + 1) (by omega)]
    unfold cb
    rw [if_neg (h 0 (by omega)), Nat.pow_succ, Nat.mul_comm]
theorem prod_one : ∀ (r n : Nat) (C : Nat → Nat), (∀ a b, a < r + 1 → b < r + 1 → C a = n → C b = n → a = b) → prodN (r + 1) (fun j => cb n (C j)) ≤ 1073741824 ^ r * 72057594037927936 := by
  intro r
  induction r with
  | zero =>
    intro n C _
    show cb n (C 0) * 1 ≤ _
    unfold cb
    rw [Nat.pow_zero, Nat.one_mul, Nat.mul_one]
    split <;> omega
  | succ r ih =>
    intro n C h
    show cb n (C 0) * prodN (r + 1) (fun j => cb n (C (j + 1))) ≤ _
    by_cases e : C 0 = n
    · rw [prod_none (r + 1) n (fun j => C (j + 1)) fun a ha h1 => absurd (h 0 (a + 1) (by omega) (by omega) e h1) (by omega)]
      unfold cb
      rw [if_pos e, Nat.mul_comm]
      exact Nat.le_refl _
    · have h1 := ih n (fun j => C (j + 1)) fun a b ha hb h1 h2 => by have := h (a + 1) (b + 1) (by omega) (by omega) h1 h2; omega
      have h2 : cb n (C 0) = 1073741824 := by unfold cb; rw [if_neg e]
      rw [h2, Nat.pow_succ, Nat.mul_comm (1073741824 ^ r), Nat.mul_assoc]
      exact Nat.mul_le_mul_left _ h1
def AV (n : Nat) (l v : List Int) : Nat → Nat → Int := fun i j =>
  if i < n then (if j < n then ent n l i j else if j = n then zth v i else 0) else if i = j + n then -1 else 0
theorem AV_abs {n : Nat} {l v : List Int} (hR : rt n l = true) (hv : ∀ i, (zth v i).natAbs ≤ 72057594037927936) (i j : Nat) : (AV n l v i j).natAbs ≤ cb n j := by
  unfold AV cb
  by_cases h : i < n
  · rw [if_pos h]
    by_cases h2 : j < n
    · rw [if_pos h2, if_neg (by omega)]
      have := AM_abs hR i j
      rw [AM_at h h2] at this
      exact this
    · rw [if_neg h2]
      by_cases h3 : j = n
      · rw [if_pos h3, if_pos h3]; exact hv i
      · rw [if_neg h3]; simp
  · rw [if_neg h]
    split <;> split <;> simp
def bv (k r : Nat) : Nat := fct (r + k + 1) * (1073741824 ^ (r + k) * 72057594037927936)
theorem bv_succ (k r : Nat) : bv (k + 1) r = bv k (r + 1) := by
  unfold bv
  rw [show r + (k + 1) = r + 1 + k by omega]
theorem bv_bp {k : Nat} (h : k ≤ 8) : bv k 0 < bp 5 := by
  rw [bp5_is]
  rcases k with _ | _ | _ | _ | _ | _ | _ | _ | _ | k
  · decide +kernel
  · decide +kernel
  · decide +kernel
  · decide +kernel
  · decide +kernel
  · decide +kernel
  · decide +kernel
  · decide +kernel
  · decide +kernel
  · omega
theorem Good.startV {n : Nat} {l v : List Int} (hR : rt n l = true) (hv : ∀ i, (zth v i).natAbs ≤ 72057594037927936) : Good 1 (bv 0) (AV n l v) := fun r R C => by
  refine ⟨_, by rw [Int.one_pow, Int.one_mul], ?_⟩
  by_cases h : ∃ a b, a < r + 1 ∧ b < r + 1 ∧ a ≠ b ∧ C a = n ∧ C b = n
  · obtain ⟨a, b, ha, hb, hab, h1, h2⟩ := h
    have e := det_turn (r + 1) (fun i j => AV n l v (R i) (C j))
    rw [← e, det_twice hab ha hb fun c => by show AV n l v (R c) (C a) = AV n l v (R c) (C b); rw [h1, h2]]
    exact Nat.zero_le _
  · refine Nat.le_trans (det_cols (m := fun j => cb n (C j)) fun i j _ _ => AV_abs hR hv _ _) ?_
    unfold bv
    exact Nat.mul_le_mul_left _ (prod_one r n C fun a b ha hb h1 h2 => Classical.byContradiction fun hab => h ⟨a, b, ha, hb, hab, h1, h2⟩)
def SV (q : Int) (k : Nat) (M : Nat → Nat → Int) : Prop := Good q (bv k) M ∧ 0 < q ∧ q.natAbs < bp 5
theorem SV.entry {q : Int} {k : Nat} {M : Nat → Nat → Int} (h : SV q k M) (hk : k ≤ 8) (i j : Nat) : (M i j).natAbs < bp 5 := Nat.lt_of_le_of_lt (h.1.entry i j) (bv_bp hk)
theorem SV.next {q : Int} {k : Nat} {M : Nat → Nat → Int} (h : SV q k M) (hk : k ≤ 8) (ha : 0 < M 0 0) : SV (M 0 0) (k + 1) (nxt q M) :=
  ⟨(h.1.next (Int.ne_of_gt h.2.1) (Int.ne_of_gt ha)).mono fun r => by rw [bv_succ]; exact Nat.le_refl _, ha, h.entry hk 0 0⟩
theorem SV.start {n : Nat} {l v : List Int} (hR : rt n l = true) (hv : ∀ i, (zth v i).natAbs ≤ 72057594037927936) : SV 1 0 (AV n l v) :=
  ⟨Good.startV hR hv, by decide, (St.start hR).2.2⟩
def gs (A : Nat → Nat → Int) : Nat → Int × (Nat → Nat → Int)
  | 0 => (1, A)
  | k + 1 => ((gs A k).2 0 0, nxt (gs A k).1 (gs A k).2)
theorem gs_mins {n : Nat} {A : Nat → Nat → Int} (h : ∀ x ∈ mins n 1 A, 0 < x) : ∀ k s, k + s = n → ∀ x ∈ mins s (gs A k).1 (gs A k).2, 0 < x := by
  intro k
  induction k with
  | zero => intro s hs; obtain rfl : s = n := (by omega); exact h
  | succ k ih =>
    intro s hs
    have h1 := ih (s + 1) (by omega)
    rw [show mins (s + 1) (gs A k).1 (gs A k).2 = (gs A k).2 0 0 :: (if 0 < (gs A k).2 0 0 then mins s ((gs A k).2 0 0) (nxt (gs A k).1 (gs A k).2) else []) from rfl] at h1
    have h2 := h1 _ (List.mem_cons_self ..)
    rw [if_pos h2] at h1
    exact fun x hx => h1 x (List.mem_cons_of_mem _ hx)
theorem gs_pos {n : Nat} {A : Nat → Nat → Int} (h : ∀ x ∈ mins n 1 A, 0 < x) {k : Nat} (hk : k < n) : 0 < (gs A k).2 0 0 := by
  have h1 := gs_mins h k (n - k) (by omega)
  rw [show n - k = (n - k - 1) + 1 by omega] at h1
  exact h1 _ (List.mem_cons_self ..)
structure Def (n : Nat) (l v : List Int) : Prop where
  right : rt n l = true
  pos : ∀ x ∈ mins n 1 (AM n l), 0 < x
  vec : ∀ i, (zth v i).natAbs ≤ 72057594037927936
theorem AV_AM (n : Nat) (l v : List Int) : ∀ i j, i < n → j < n → AV n l v i j = AM n l i j := fun i j hi hj => by
  unfold AV; rw [if_pos hi, if_pos hj, AM_at hi hj]
theorem Def.pos' {n : Nat} {l v : List Int} (h : Def n l v) : ∀ x ∈ mins n 1 (AV n l v), 0 < x := by
  rw [mins_congr (AV_AM n l v)]; exact h.pos
theorem Def.n8 {n : Nat} {l v : List Int} (h : Def n l v) : n ≤ 8 := by have := (rt_spec h.right).2.1; omega
theorem Def.sv {n : Nat} {l v : List Int} (h : Def n l v) : ∀ k, k ≤ n → SV (gs (AV n l v) k).1 k (gs (AV n l v) k).2 := by
  intro k
  induction k with
  | zero => intro _; exact SV.start h.right h.vec
  | succ k ih => intro hk; exact (ih (by omega)).next (by have := h.n8; omega) (gs_pos h.pos' (by omega))
theorem Def.low {n : Nat} {l v : List Int} (h : Def n l v) : ∀ k, k ≤ n → ∀ t j, (gs (AV n l v) k).2 (n + t) j = if j = t then -(gs (AV n l v) k).1 else 0 := by
  intro k
  induction k with
  | zero =>
    intro _ t j
    show AV n l v (n + t) j = _
    unfold AV
    rw [if_neg (by omega)]
    by_cases e : j = t
    · rw [if_pos (by omega), if_pos e]; rfl
    · rw [if_neg (by omega), if_neg e]
  | succ k ih =>
    intro hk t j
    have hs := h.sv k (by omega)
    have h1 := ih (by omega) (t + 1) (j + 1)
    have h2 := ih (by omega) (t + 1) 0
    rw [if_neg (by omega)] at h2
    show nxt _ _ (n + t) j = _
    unfold nxt chio
    rw [show n + t + 1 = n + (t + 1) by omega, h1, h2]
    by_cases e : j = t
    · rw [if_pos (by omega), if_pos e, Int.zero_mul, Int.sub_zero, Int.mul_neg, Int.neg_tdiv, Int.mul_tdiv_cancel _ (Int.ne_of_gt hs.2.1)]
      rfl
    · rw [if_neg (by omega), if_neg e, Int.zero_mul, Int.mul_zero, Int.sub_zero, Int.zero_tdiv]
theorem Def.last {n : Nat} {l v : List Int} (h : Def n l v) {k : Nat} (hk : k < n) (j : Nat) : (gs (AV n l v) (k + 1)).2 (n - 1) j = (gs (AV n l v) k).2 0 (j + 1) := by
  have hs := h.sv k (by omega)
  have h1 := h.low k (by omega) 0 (j + 1)
  have h2 := h.low k (by omega) 0 0
  rw [if_neg (by omega)] at h1
  rw [if_pos rfl] at h2
  show nxt _ _ (n - 1) j = _
  unfold nxt chio
  rw [show n - 1 + 1 = n + 0 by omega, h1, h2, Int.mul_zero, Int.zero_sub, Int.neg_mul, Int.neg_neg, Int.mul_tdiv_cancel_left _ (Int.ne_of_gt hs.2.1)]
def slX (n : Nat) (l v : List Int) (i : Nat) : Int := (gs (AV n l v) n).2 i 0
def slD (n : Nat) (l : List Int) : Int := det n (AM n l)
theorem Def.full {n : Nat} {l v : List Int} (h : Def n l v) : ∀ k, k ≤ n → Full (gs (AV n l v) k).1 (n - k) (gs (AV n l v) k).2 (slD n l) := by
  intro k
  induction k with
  | zero =>
    intro _
    have := Full.start n (AV n l v)
    rw [det_congr (AV_AM n l v)] at this
    exact this
  | succ k ih =>
    intro hk
    have hs := h.sv k (by omega)
    have hf := ih (by omega)
    rw [show n - k = (n - (k + 1)) + 1 by omega] at hf
    exact Full.next hs.1 (Int.ne_of_gt hs.2.1) (Int.ne_of_gt (gs_pos h.pos' (by omega))) hf
theorem Def.den {n : Nat} {l v : List Int} (h : Def n l v) : (gs (AV n l v) n).1 = slD n l := by
  have hf := h.full n (Nat.le_refl _)
  rw [Nat.sub_self] at hf
  exact hf.zero.symm
theorem Def.den_pos {n : Nat} {l v : List Int} (h : Def n l v) : 0 < slD n l := by
  rw [← h.den]; exact (h.sv n (Nat.le_refl _)).2.1
theorem Def.den_bp {n : Nat} {l v : List Int} (h : Def n l v) : (slD n l).natAbs < bp 5 := by
  rw [← h.den]; exact (h.sv n (Nat.le_refl _)).2.2
theorem Def.num_bp {n : Nat} {l v : List Int} (h : Def n l v) (i : Nat) : (slX n l v i).natAbs < bp 5 := (h.sv n (Nat.le_refl _)).entry h.n8 i 0
def Win (n s : Nat) (L : List (List Int)) (M : Nat → Nat → Int) : Prop := L.length = n ∧ ∀ i, i < n → (L.getD i []).length = s + 1 ∧ ∀ j, j < s + 1 → zth (L.getD i []) j = M i j
def turn (q : Int) (s : Nat) (L : List (List Int)) : List (List Int) := ((L.drop 1).map fun R => tk (L.getD 0 []) R q (s + 1)) ++ [(L.getD 0 []).drop 1]
theorem Win.next {n s : Nat} {q : Int} {L : List (List Int)} {M : Nat → Nat → Int} (h : Win n (s + 1) L M) (hn : 0 < n) (hl : ∀ j, nxt q M (n - 1) j = M 0 (j + 1)) : Win n s (turn q s L) (nxt q M) := by
  have hd : ((L.drop 1).map fun R => tk (L.getD 0 []) R q (s + 1)).length = n - 1 := by rw [List.length_map, List.length_drop, h.1]
  unfold turn
  refine ⟨by rw [List.length_append, hd, List.length_singleton]; omega, fun i hi => ?_⟩
  by_cases e : i < n - 1
  · have e2 : (((L.drop 1).map fun R => tk (L.getD 0 []) R q (s + 1)) ++ [(L.getD 0 []).drop 1]).getD i [] = tk (L.getD 0 []) (L.getD (i + 1) []) q (s + 1) := by
      rw [List.getD_eq_getElem?_getD, List.getElem?_append_left (by omega), List.getElem?_map, List.getElem?_eq_getElem (by rw [List.length_drop, h.1]; omega), List.getElem_drop]
      have : L.getD (i + 1) [] = L[1 + i]'(by rw [h.1]; omega) := by
        rw [List.getD_eq_getElem?_getD, Nat.add_comm, List.getElem?_eq_getElem (by rw [h.1]; omega)]
        rfl
      rw [this]
      rfl
    rw [e2]
    refine ⟨mk_len _ _, fun j hj => ?_⟩
    unfold tk
    rw [mk_at hj, (h.2 0 hn).2 0 (by omega), (h.2 0 hn).2 (j + 1) (by omega), (h.2 (i + 1) (by omega)).2 0 (by omega), (h.2 (i + 1) (by omega)).2 (j + 1) (by omega)]
    rfl
  · obtain rfl : i = n - 1 := by omega
    have e2 : (((L.drop 1).map fun R => tk (L.getD 0 []) R q (s + 1)) ++ [(L.getD 0 []).drop 1]).getD (n - 1) [] = (L.getD 0 []).drop 1 := by
      rw [List.getD_eq_getElem?_getD, List.getElem?_append_right (by omega), hd, Nat.sub_self]
      rfl
    rw [e2]
    have h0 := h.2 0 hn
    refine ⟨by rw [List.length_drop, h0.1]; omega, fun j hj => ?_⟩
    rw [zth_drop, h0.2 (j + 1) (by omega), hl]
theorem Win.few {n s k : Nat} {q : Int} {L : List (List Int)} {M : Nat → Nat → Int} (h : Win n s L M) (hs : SV q k M) (hk : k ≤ 8) (i : Nat) : Few (L.getD i []) := fun j => by
  have h0 : (0 : Int).natAbs < bp 5 := bp_pos 5
  by_cases hi : i < n
  · obtain ⟨h1, h2⟩ := h.2 i hi
    by_cases hj : j < s + 1
    · rw [h2 j hj]; exact hs.entry hk i j
    · rw [zth_far (by omega)]; exact h0
  · rw [List.getD_eq_getElem?_getD, List.getElem?_eq_none (by rw [h.1]; omega)]
    show (zth [] j).natAbs < _
    rw [zth_far (Nat.zero_le _)]; exact h0
def zz (n : Nat) (l v : List Int) (c : Nat) : Int := if c < n then slX n l v c else -(slD n l)
def unitL (n a : Nat) : List Int := mk n fun i => if i = a then 1 else 0
def Run (B n : Nat) (A : Nat → Nat → Int) : Prop := ∀ k, k < n → (∀ j, j < k → 0 < (gs A j).2 0 0) → 0 < (gs A k).1 ∧ (gs A k).1.natAbs < bp B ∧ ∀ i j, ((gs A k).2 i j).natAbs < bp B
theorem run_AM {n : Nat} {l : List Int} (hR : rt n l = true) : Run 5 n (AM n l) := by
  have h8 := (rt_spec hR).2.1
  have h : ∀ k, k < n → (∀ j, j < k → 0 < (gs (AM n l) j).2 0 0) → 0 < (gs (AM n l) k).1 ∧ St (gs (AM n l) k).1 k (gs (AM n l) k).2 := by
    intro k
    induction k with
    | zero => intro _ _; exact ⟨by show (0 : Int) < 1; decide, St.start hR⟩
    | succ k ih =>
      intro hk hp
      have h1 := ih (by omega) fun j hj => hp j (by omega)
      have h2 := hp k (by omega)
      exact ⟨h2, h1.2.next (by omega) (Int.ne_of_gt h2)⟩
  exact fun k hk hp => ⟨(h k hk hp).1, (h k hk hp).2.2.2, (h k hk hp).2.entry (by omega)⟩
theorem mins_succ (s : Nat) (q : Int) (M : Nat → Nat → Int) : mins (s + 1) q M = M 0 0 :: (if 0 < M 0 0 then mins s (M 0 0) (nxt q M) else []) := rfl
def Left (n k : Nat) (M V : Nat → Nat → Int) : Prop := ∀ r c, k ≤ r → r < n → k ≤ c → c < n → V r c = M (r - k) (c - k)
theorem Left.start {n : Nat} {A V : Nat → Nat → Int} (h : ∀ i j, i < n → j < n → V i j = A i j) : Left n 0 A V := fun r c _ h2 _ h4 => h r c h2 h4
theorem MI.app {w : World} {base bP bO n : Nat} {av : Value} {G : Nat → Nat} {b0 : Bool} {p0 : Option Addr} {n0 c0 : Nat} {q z : Int} {tv : Value} {L : List Int} {V : Nat → Nat → Int} {wr w' : World} {v' : Value} (h : MI w base bP bO n av G b0 p0 n0 c0 q tv L V wr) (hG : ∀ q, q < n → G q < bP) (hPO : bP < bO) (hb : base ≤ bO)
    (hO : OwnB w' bO v' (L ++ [z])) (hg : wr.grownBy w' tv.ownBlock) (hB : Below bO wr w') : MI w base bP bO n av G b0 p0 n0 c0 q v' (L ++ [z]) V w' :=
  ⟨h.m.grownB hg fun k hk => ⟨(h.l.blk k hk).2.2, fun i hi => by have h1 := (h.l.blk k hk).1; have h2 := hG i hi; omega⟩, Blk.below h.p hB hPO, h.q.grown hg fun k hk => (h.l.blk k hk).2.2, hO, Below.trans h.u (Below.mono hB hb)⟩
theorem MI.prev {w : World} {base bP bO n : Nat} {av : Value} {G : Nat → Nat} {b0 b : Bool} {p0 p : Option Addr} {n0 c0 m c : Nat} {q z : Int} {tv : Value} {L : List Int} {V : Nat → Nat → Int} {wr : World} (h : MI w base bP bO n av G b0 p0 n0 c0 q tv L V wr) (hG : ∀ q, q < n → G q < bP) (hPO : bP < bO) (hb : base ≤ bP)
    (hz : Big wr (.agg #[.bool b, .slice p m c]) z) : MI w base bP bO n av G b p m c z tv L V (wr.setRow bP #[.bool b, .slice p m c]) :=
  ⟨h.m.otherB h.p _ fun i hi => by have h2 := hG i hi; omega, h.p.setRow _, hz.setRow h.p, h.l.lower h.p _ hPO, below_setRow h.u hb _⟩
set_option maxHeartbeats 16000000 in
theorem rminors_any {w : World} {base n B : Nat} {av : Value} {G : Nat → Nat} {V : Nat → Nat → Int} (h : OwnM w base av n n G V) (hn : n ≤ 8) (hB : B ≤ 100) (hR : Run B n V) (hb : base ≤ w.heap.size) :
    Calls Tryz.prog 55 #[av] w fun r w' => ∃ z, r = .returned z ∧ Below base w w' ∧ Bv w' z (mins n 1 V) := by
  obtain ⟨pA, cA, rfl⟩ := h.slice
  have HO1 := hid (fun w => of_big 1 (by decide) (by decide) w)
  have HGl := hid (fun q (hq : q < n) => show G q < w.heap.size from by obtain ⟨_, _, _, h3, _⟩ := h; exact (h3 q hq).2.lt)
  have HR := hid hR
  obtain ⟨T, hT⟩ : ∃ T, mins n 1 V = T := ⟨_, rfl⟩
  have HT := hid hT
  rw [hT]
  have HM := hid h
  clear hT hR h
  go_enter Tryz.func55, Tryz.ntmps55
  go_wp2_with (first
    | (go_at_call 37; (with_reducible refine (HO1.out _).mono ?_); rintro r w4 ⟨hu4, v4, rfl, hB4⟩; obtain ⟨b4, a4, n4, c4, rfl⟩ := hB4.shape)
    | ((with_reducible apply stB_P); exact rfl; exact rfl; exact Blk.new _ _ rfl; exact rfl; exact rfl; exact one2 _ _ _ _
       refine wpL_folded (fun wd => Up w4 wd ∧ Blk wd w4.heap.size 46 #[.bool b4, .slice a4 n4 c4] ∧ Big wd (.agg #[.bool b4, .slice a4 n4 c4]) 1) ⟨gUp, gBlk, (hB4.up (Up.alloc _ _)).setRow (Blk.new _ _ rfl)⟩ ?_
       rintro w5 ⟨hu5, hb5, hB5⟩))
  have hu := hu4.trans hu5
  have hz4 := hu4.size
  have HG := hid (fun q (hq : q < n) => show G q < w4.heap.size from Nat.lt_of_lt_of_le (HGl.out q hq) hz4)
  have HbP := hid (show base ≤ w4.heap.size from Nat.le_trans hb hz4)
  obtain ⟨bP, hbP⟩ : ∃ y, w4.heap.size = y := ⟨_, rfl⟩
  rw [hbP] at hb5 HG HbP ⊢
  have hMI : MI w base bP (bP + 1) n (.slice pA n cA) G b4 a4 n4 c4 1 (.slice none 0 0) [] V w5 := ⟨HM.out.up hu, hb5, hB5, OwnB.nil _ _, Below.mono hu hb⟩
  have HB0 := hid hb
  clear hu4 hu5 hb5 hB5 hB4 hz4 hbP hu HGl HM hb HO1
  go_loopg [4, 5] n (fun g t4 t5 wr => ∃ (k : Nat) (V' : Nat → Nat → Int) (b0 : Bool) (p0 : Option Addr) (n0 c0 : Nat) (L : List Int), k ≤ n ∧ n - k ≤ g ∧ t5 = .int .i64 (k : Nat) ∧ (∀ j, j < k → 0 < (gs V j).2 0 0) ∧ Left n k (gs V k).2 V' ∧ L ++ mins (n - k) (gs V k).1 (gs V k).2 = T ∧ L.length = k ∧ MI w base bP (bP + 1) n (.slice pA n cA) G b0 p0 n0 c0 (gs V k).1 t4 L V' wr)
  case atStart => exact ⟨0, V, b4, a4, n4, c4, [], Nat.zero_le _, by omega, rfl, fun j hj => absurd hj (Nat.not_lt_zero _), Left.start fun _ _ _ _ => rfl, HT.out, rfl, hMI⟩
  case round =>
    clear hMI HT
    obtain ⟨k, V', b0, p0, n0, c0, L, hk, hkg, rfl, hpos, hleft, hdone, hLl, hMI⟩ := hrel
    obtain ⟨pL, cL, rfl⟩ := hMI.l.slice
    have HMI := hid hMI
    have HPos := hid hpos
    have HLeft := hid hleft
    have HDone := hid hdone
    have HSz := hid (show bP + 1 ≤ wr.heap.size from hMI.p.lt)
    have HLl := hid hLl
    clear hpos hleft hdone hMI hLl
    by_cases hlt : k < n
    · obtain ⟨s, hs⟩ : ∃ s, n - k = s + 1 := ⟨n - k - 1, by omega⟩
      obtain ⟨gA, cA', CA, hvA, -, hcA, hBA, hEA⟩ := HMI.out.m.open (by omega)
      injection hvA with x1 _ x3
      subst x1 x3
      have HEA := hid hEA
      obtain ⟨ck, hCk⟩ := hEA k hlt
      have HCk := hid hCk
      have hcx := hBA.cell k hCk
      obtain ⟨Ck, bk, ak, nk, dk, hBk, -, h1, h2, hbig⟩ := HMI.out.m.entry hlt hlt
      have HRk := hid (fun w' (hB : Blk w' (G k) 46 Ck) => bigAt_range hB h1 h2)
      obtain ⟨r0, r1, r2⟩ := HR.out k hlt HPos.out
      obtain ⟨q, hq⟩ : ∃ q, (gs V k).1 = q := ⟨_, rfl⟩
      obtain ⟨M, hM⟩ : ∃ M, (gs V k).2 = M := ⟨_, rfl⟩
      have HN1 := hid (show (gs V (k + 1)).1 = M 0 0 from by rw [← hM]; rfl)
      have HN2 := hid (show (gs V (k + 1)).2 = nxt q M from by rw [← hM, ← hq]; rfl)
      have HP2 := hid (fun (hp : 0 < M 0 0) j (hj : j < k + 1) => show 0 < (gs V j).2 0 0 from by
        by_cases e : j = k
        · rw [e, hM]; exact hp
        · exact HPos.out j (by omega))
      have HD2 := hid (show L ++ (M 0 0 :: (if 0 < M 0 0 then mins s (M 0 0) (nxt q M) else [])) = T from by have h := HDone.out; rw [hq, hM, hs, mins_succ] at h; exact h)
      have HLf : Hid (Left n k M V') := hid (by have h := HLeft.out; rw [hM] at h; exact h)
      have HMQ : Hid (MI w base bP (bP + 1) n (.slice (some ⟨gA, 0, none⟩) n cA) G b0 p0 n0 c0 q (.slice pL L.length cL) L V' wr) := hid (by have h := HMI.out; rw [hq] at h; exact h)
      have h00 : V' k k = M 0 0 := by have h := HLf.out k k (Nat.le_refl _) hlt (Nat.le_refl _) hlt; rwa [Nat.sub_self] at h
      rw [hq] at r0 r1
      rw [hM] at r2
      rw [h00] at hbig
      have HQ := hid (show q ≠ 0 ∧ q.natAbs < bp B ∧ ∀ i j, (M i j).natAbs < bp B from ⟨Int.ne_of_gt r0, r1, r2⟩)
      have HSg := hid (fun w v (h : Big w v (M 0 0)) => rsign_big h)
      have e1 : IntKind.i64.wrap ((k : Int) + 1) = (k : Int) + 1 := IntWalk.i64_in _ (by omega)
      have HL9 : Hid (L.length < 1000000) := hid (by have := HLl.out; omega)
      have HBB := hid hBA
      obtain ⟨m0, hm0⟩ : ∃ y, M 0 0 = y := ⟨_, rfl⟩
      have HM0 := hid hm0
      rw [hm0] at hbig HSg HN1 HP2 HD2
      clear hq hM hm0 hEA hCk h1 h2 r0 r1 r2 h00 HDone HLeft HMI HPos hcA
      go_upto_region 7 with (first
        | ((with_reducible apply ldB2_P); exact rfl; exact rfl; exact HRk.out _ hBk)
        | ((with_reducible apply bsB_P); exact rfl)
        | ((with_reducible apply appB (l := L) (z := m0)); exact rfl; exact rfl; exact OwnB.up (Up.alloc _ _) HMQ.out.l; exact bigAt_range0 (Blk.new _ _ rfl); exact hbig.up (Up.alloc _ _); (focus (have := HSz.out; simp; omega)); exact HL9.out; rintro v6 w6 hO6 hg6 hb6))
      have h6 := (HMQ.out.up (Up.alloc _ _) HB0.out).app HG.out (Nat.lt_succ_self _) (Nat.le_trans HbP.out (Nat.le_succ _)) hO6 hg6 hb6
      have HLL : Hid (∀ y, L ++ [m0] = y → y.length = k + 1 ∧ (∀ Z, L ++ (m0 :: Z) = y ++ Z)) := hid (fun y hy => by
        rw [← hy]
        exact ⟨by have := HLl.out; simp; omega, fun Z => by rw [List.append_assoc]; rfl⟩)
      obtain ⟨LL, hLL⟩ : ∃ y, L ++ [m0] = y := ⟨_, rfl⟩
      obtain ⟨hl1, hl2⟩ := HLL.out LL hLL
      have HL3 := hid hl1
      replace HD2 := HD2.out
      rw [hl2] at HD2
      replace HD2 := hid HD2
      rw [hLL] at h6 hO6
      clear hLL hl1 hl2 HLL
      obtain ⟨p6, c6, rfl⟩ := hO6.slice
      obtain ⟨gB, cB, CB, hvB, -, -, hBB, hEB⟩ := h6.m.open (by omega)
      injection hvB with x1 _ x3
      injection x1 with x1
      injection x1 with x1
      subst x1 x3
      have HEB := hid hEB
      obtain ⟨ck6, hCk6⟩ := hEB k hlt
      have hcx := hBB.cell k hCk6
      obtain ⟨Ck6, bk6, ak6, nk6, dk6, hBk6, -, h1, h2, hbig6⟩ := h6.m.entry hlt hlt
      have HRk6 := hid (fun w' (hB : Blk w' (G k) 46 Ck6) => bigAt_range hB h1 h2)
      have h00 : V' k k = m0 := by have h := HLf.out k k (Nat.le_refl _) hlt (Nat.le_refl _) hlt; rwa [Nat.sub_self, HM0.out] at h
      rw [h00] at hbig6
      have H6 := hid h6
      clear hEB hCk6 h1 h2 h00 h6 hO6 hg6 hb6 HSz HRk HMQ HBB hBA hBk hbig HCk HEA
      by_cases hp : 0 < m0
      · have ds : decide (sgn m0 ≤ 0) = false := by unfold sgn; rw [decide_eq_false]; split <;> (try split) <;> omega
        have HD3 := hid (show LL ++ mins s m0 (nxt q M) = T from by have h := HD2.out; rw [if_pos hp] at h; exact h)
        have HP3 := hid (HP2.out hp)
        clear HD2 HP2 HLl HL9
        go_wp2_with (first
          | ((with_reducible apply ldB2_P); exact rfl; exact rfl; exact HRk6.out _ hBk6)
          | (go_at_call 52; (with_reducible refine (HSg.out _ _ hbig6).mono ?_); rintro r w7 ⟨rfl, hu7⟩))
        have h7 := H6.out.up hu7 HB0.out
        clear hu7 H6 hBk6 hcx HRk6 hBB HEB hbig6 ds HSg
        go_loopg [6] n (fun g ti wr => ∃ (i : Nat) (V1 : Nat → Nat → Int), k + 1 ≤ i ∧ i ≤ n ∧ n - i ≤ g ∧ ti = .int .i64 (i : Nat) ∧ At1 n k q M i (k + 1) V1 ∧ MI w base bP (bP + 1) n (.slice (some ⟨gA, 0, none⟩) n cA) G b0 p0 n0 c0 q (.slice p6 LL.length c6) LL V1 wr)
        case atStart => exact ⟨k + 1, V', Nat.le_refl _, hlt, by omega, rfl, At1.start HLf.out, h7⟩
        case round =>
          clear h7
          obtain ⟨i, V1, hki, hi, hig, rfl, hAt, hMI⟩ := hrel
          have HAt := hid hAt
          have HMI := hid hMI
          clear hAt hMI
          by_cases hil : i < n
          · have e2 : IntKind.i64.wrap ((i : Int) + 1) = (i : Int) + 1 := IntWalk.i64_in _ (by omega)
            go_wp2_with fail
            obtain ⟨wO, hwO⟩ : ∃ y, wr = y := ⟨_, rfl⟩
            rw [hwO] at HMI ⊢
            clear hwO
            go_loopg [7] n (fun g tj wr => ∃ (j : Nat) (V1 : Nat → Nat → Int), k + 1 ≤ j ∧ j ≤ n ∧ n - j ≤ g ∧ tj = .int .i64 (j : Nat) ∧ At1 n k q M i j V1 ∧ MI w base bP (bP + 1) n (.slice (some ⟨gA, 0, none⟩) n cA) G b0 p0 n0 c0 q (.slice p6 LL.length c6) LL V1 wr)
            case atStart => exact ⟨k + 1, V1, Nat.le_refl _, hlt, by omega, rfl, HAt.out, HMI.out⟩
            case round =>
              clear HAt HMI
              obtain ⟨j, V2, hkj, hj, hjg, rfl, hAt, hMI⟩ := hrel
              by_cases hjl : j < n
              · have e3 : IntKind.i64.wrap ((j : Int) + 1) = (j : Int) + 1 := IntWalk.i64_in _ (by omega)
                obtain ⟨gB, cB, CB, hvB, -, -, hBB, hEB⟩ := hMI.m.open (by omega)
                injection hvB with x1 _ x3
                injection x1 with x1
                injection x1 with x1
                subst x1 x3
                obtain ⟨ci, hCi⟩ := hEB i hil
                have HCi := hid (fun w' (hu : Up wr w') => (hBB.up hu).cell i hCi)
                obtain ⟨Ci, bi, ai, ni, di, hBi, hsz, -, -, -⟩ := hMI.m.entry hil hjl
                have hst := hAt.step hki hil hkj hjl
                have f1 := HQ.out.2.2 (k - k) (k - k)
                have f2 := HQ.out.2.2 (i - k) (j - k)
                have f3 := HQ.out.2.2 (i - k) (k - k)
                have f4 := HQ.out.2.2 (k - k) (j - k)
                rw [← hAt.old (r := k) (c := k) (by omega) (by omega) (by omega) (by omega) (by omega)] at f1
                rw [← hAt.old (r := i) (c := j) (by omega) (by omega) (by omega) (by omega) (by omega)] at f2
                rw [← hAt.old (r := i) (c := k) (by omega) (by omega) (by omega) (by omega) (by omega)] at f3
                rw [← hAt.old (r := k) (c := j) (by omega) (by omega) (by omega) (by omega) (by omega)] at f4
                have HST := hid (fun w' (hu : Up wr w') => hst ▸ rstep_any (hMI.m.up hu) (hMI.q.up hu) hlt hil hlt hjl hn (by omega) hB HQ.out.1 HQ.out.2.1 f1 f2 f3 f4)
                have HSet := hid (hAt.set hki hkj)
                obtain ⟨z, hz⟩ : ∃ z, nxt q M (i - (k + 1)) (j - (k + 1)) = z := ⟨_, rfl⟩
                rw [hz] at HST HSet
                have HMI := hid hMI
                clear hz hst f1 f2 f3 f4 hAt hMI hEB hCi hBB
                go_wp2_with fail
                refine wp_region_sp (n := 70) 12 [50, 51, 52, 53, 54, 55, 56, 57, 58, 59, 60, 61] [SP.is (.slice (some ⟨gA, 0, none⟩) n cA), SP.is (.int .i64 (i : Nat)), SP.is (.pointer (some ⟨gA, i, none⟩)), SP.is (.slice (some ⟨G i, 0, none⟩) n ci), SP.is (.int .i64 (j : Nat)), SP.is (.slice (some ⟨gA, 0, none⟩) n cA), SP.is (.int .i64 (k : Nat)), SP.is (.int .i64 (i : Nat)), SP.is (.int .i64 (j : Nat)), SP.is (.agg #[.bool b0, .slice p0 n0 c0]), SP.of (fun v w1 => Big w1 v z) (fun _ _ _ h hu => h.up hu), SP.is (.pointer (some ⟨G i, j * 2, none⟩)), SP.any] (fun wq => Up wr wq) (by kernel_rfl) (by rfl) (by kernel_rfl) (by kernel_rfl) (fun _ _ h hu => (h).trans hu) (by first | exact Up.refl _ | assumption) (fun ev w9 hS9 i o hne hi hev => ?_) (fun gR wE hq hSE huE => ?_)
                · have hS1 := hS9
                  have hcC := hev.const
                  have hcF := hev.func
                  have hcG := hev.global
                  rcases i with _ | _ | _ | _ | _ | _ | _ | _ | _ | _ | _ | _ | _ | i
                  · obtain rfl := Option.some.inj (show some _ = some o from hi)
                    have e0 := hev.other 0 (by kernel_rfl)
                    simp [Act.eval] at e0
                    exact leavesR_value (u := .slice (some ⟨gA, 0, none⟩) n cA) (by first | (go_simp; done) | (go_simp; exact rfl)) rfl
                  · obtain rfl := Option.some.inj (show some _ = some o from hi)
                    have e6 := hev.other 6 (by kernel_rfl)
                    simp [Act.eval] at e6
                    exact leavesR_value (u := .int .i64 (i : Nat)) (by first | (go_simp; done) | (go_simp; exact rfl)) rfl
                  · obtain rfl := Option.some.inj (show some _ = some o from hi)
                    have e50 : ev (.tmp 50) = (.slice (some ⟨gA, 0, none⟩) n cA) := hev.dep 0 50 (by kernel_rfl)
                    have e51 : ev (.tmp 51) = (.int .i64 (i : Nat)) := hev.dep 1 51 (by kernel_rfl)
                    exact leavesR_value (u := .pointer (some ⟨gA, i, none⟩)) (by first | (go_simp; done) | (go_simp; exact rfl)) rfl
                  · obtain rfl := Option.some.inj (show some _ = some o from hi)
                    have e52 : ev (.tmp 52) = (.pointer (some ⟨gA, i, none⟩)) := hev.dep 2 52 (by kernel_rfl)
                    have hcx := HCi.out w9 hS1; exact leavesR_value (u := .slice (some ⟨G i, 0, none⟩) n ci) (by go_simp) rfl
                  · obtain rfl := Option.some.inj (show some _ = some o from hi)
                    have e7 := hev.other 7 (by kernel_rfl)
                    simp [Act.eval] at e7
                    exact leavesR_value (u := .int .i64 (j : Nat)) (by first | (go_simp; done) | (go_simp; exact rfl)) rfl
                  · obtain rfl := Option.some.inj (show some _ = some o from hi)
                    have e0 := hev.other 0 (by kernel_rfl)
                    simp [Act.eval] at e0
                    exact leavesR_value (u := .slice (some ⟨gA, 0, none⟩) n cA) (by first | (go_simp; done) | (go_simp; exact rfl)) rfl
                  · obtain rfl := Option.some.inj (show some _ = some o from hi)
                    have e5 := hev.other 5 (by kernel_rfl)
                    simp [Act.eval] at e5
                    exact leavesR_value (u := .int .i64 (k : Nat)) (by first | (go_simp; done) | (go_simp; exact rfl)) rfl
                  · obtain rfl := Option.some.inj (show some _ = some o from hi)
                    have e6 := hev.other 6 (by kernel_rfl)
                    simp [Act.eval] at e6
                    exact leavesR_value (u := .int .i64 (i : Nat)) (by first | (go_simp; done) | (go_simp; exact rfl)) rfl
                  · obtain rfl := Option.some.inj (show some _ = some o from hi)
                    have e7 := hev.other 7 (by kernel_rfl)
                    simp [Act.eval] at e7
                    exact leavesR_value (u := .int .i64 (j : Nat)) (by first | (go_simp; done) | (go_simp; exact rfl)) rfl
                  · obtain rfl := Option.some.inj (show some _ = some o from hi)
                    have e3 := hev.other 3 (by kernel_rfl)
                    simp [Act.eval] at e3
                    exact leavesR_value (run_ldBR rfl (by go_simp) (HMI.out.p.up hS1) rfl) rfl
                  · obtain rfl := Option.some.inj (show some _ = some o from hi)
                    have e55 : ev (.tmp 55) = (.slice (some ⟨gA, 0, none⟩) n cA) := hev.dep 5 55 (by kernel_rfl)
                    have e56 : ev (.tmp 56) = (.int .i64 (k : Nat)) := hev.dep 6 56 (by kernel_rfl)
                    have e57 : ev (.tmp 57) = (.int .i64 (i : Nat)) := hev.dep 7 57 (by kernel_rfl)
                    have e58 : ev (.tmp 58) = (.int .i64 (j : Nat)) := hev.dep 8 58 (by kernel_rfl)
                    have e59 : ev (.tmp 59) = (.agg #[.bool b0, .slice p0 n0 c0]) := hev.dep 9 59 (by kernel_rfl)
                    refine leavesR_call ?_ (HST.out _ hS1)
                    go_simp
                  · obtain rfl := Option.some.inj (show some _ = some o from hi)
                    have e53 : ev (.tmp 53) = (.slice (some ⟨G i, 0, none⟩) n ci) := hev.dep 3 53 (by kernel_rfl)
                    have e54 : ev (.tmp 54) = (.int .i64 (j : Nat)) := hev.dep 4 54 (by kernel_rfl)
                    exact leavesR_value (u := .pointer (some ⟨G i, j * 2, none⟩)) (by first | (go_simp; done) | (go_simp; exact rfl)) rfl
                  · exact absurd rfl hne
                  · exact absurd (show i + 13 < 13 from (Array.getElem?_eq_some_iff.1 hi).1) (by omega)
                have hS1 := hSE
                have q0 : gR 50 = (.slice (some ⟨gA, 0, none⟩) n cA) := hq 0 50 (by decide) (by kernel_rfl)
                have q1 : gR 51 = (.int .i64 (i : Nat)) := hq 1 51 (by decide) (by kernel_rfl)
                have q2 : gR 52 = (.pointer (some ⟨gA, i, none⟩)) := hq 2 52 (by decide) (by kernel_rfl)
                have q3 : gR 53 = (.slice (some ⟨G i, 0, none⟩) n ci) := hq 3 53 (by decide) (by kernel_rfl)
                have q4 : gR 54 = (.int .i64 (j : Nat)) := hq 4 54 (by decide) (by kernel_rfl)
                have q5 : gR 55 = (.slice (some ⟨gA, 0, none⟩) n cA) := hq 5 55 (by decide) (by kernel_rfl)
                have q6 : gR 56 = (.int .i64 (k : Nat)) := hq 6 56 (by decide) (by kernel_rfl)
                have q7 : gR 57 = (.int .i64 (i : Nat)) := hq 7 57 (by decide) (by kernel_rfl)
                have q8 : gR 58 = (.int .i64 (j : Nat)) := hq 8 58 (by decide) (by kernel_rfl)
                have q9 : gR 59 = (.agg #[.bool b0, .slice p0 n0 c0]) := hq 9 59 (by decide) (by kernel_rfl)
                have q10 : (fun v w1 => Big w1 v z) (gR 60) wE := hq 10 60 (by decide) (by kernel_rfl)
                dsimp only at q10
                obtain ⟨v60, hv60⟩ : ∃ v, gR 60 = v := ⟨_, rfl⟩
                rw [hv60] at q10
                have q11 : gR 61 = (.pointer (some ⟨G i, j * 2, none⟩)) := hq 11 61 (by decide) (by kernel_rfl)
                refine ⟨fun h => absurd h (by decide), fun o ho => ?_⟩
                obtain rfl := Option.some.inj (show some _ = some o from ho)
                simp only [putL, List.map_cons, List.map_nil, q0, q1, q2, q3, q4, q5, q6, q7, q8, q9, hv60, q11, Act.put, pu1, pu2, pu3]
                clear hq hSE q0 q1 q2 q3 q4 q5 q6 q7 q8 q9 q11
                obtain ⟨yb, ya, yn, yc, rfl⟩ := q10.shape
                have hset := MI.set (HMI.out.up hS1 HB0.out) hil hjl HG.out (Nat.lt_succ_self _) (hBi.up hS1) q10
                refine wp_stB2 _ _ rfl rfl rfl (hBi.up hS1) (by omega) ?_
                obtain ⟨wK, hwK⟩ : ∃ y, wE.setRow (G i) (splB Ci (j * 2) [.bool yb, .slice ya yn yc]) = y := ⟨_, rfl⟩
                rw [hwK] at hset ⊢
                clear hwK hS1 huE q10 HST hBi HCi HMI
                go_wp2_with fail
                go_roundg (n - (j + 1))
                case measure => omega
                case rel => exact ⟨j + 1, _, by omega, hjl, Nat.le_refl _, rfl, HSet.out, hset⟩
              · obtain rfl : j = n := by omega
                have HR2 := hid hAt.row
                have HMI := hid hMI
                clear hAt hMI
                go_wp2_with fail
                go_roundg (j - (i + 1))
                case measure => omega
                case rel => exact ⟨i + 1, V2, by omega, hil, Nat.le_refl _, rfl, HR2.out, HMI.out⟩
          · obtain rfl : i = n := by omega
            have HLn := hid (show Left i (k + 1) (nxt q M) V1 from HAt.out.all)
            have h00 : V1 k k = m0 := by rw [HAt.out.old (r := k) (c := k) (by omega) (by omega) (by omega) (by omega) (by omega), Nat.sub_self, HM0.out]
            obtain ⟨gB, cB, CB, hvB, -, -, hBB, hEB⟩ := HMI.out.m.open (by omega)
            injection hvB with x1 _ x3
            injection x1 with x1
            injection x1 with x1
            subst x1 x3
            obtain ⟨ck8, hCk8⟩ := hEB k hlt
            have hcx := hBB.cell k hCk8
            obtain ⟨Ck8, bk8, ak8, nk8, dk8, hBk8, -, h1, h2, hbig8⟩ := HMI.out.m.entry hlt hlt
            have HRk8 := hid (fun w' (hB : Blk w' (G k) 46 Ck8) => bigAt_range hB h1 h2)
            rw [h00] at hbig8
            clear h00 h1 h2 hEB hCk8 hBB HAt
            go_wp2_with (first
              | ((with_reducible apply ldB2_P); exact rfl; exact rfl; exact HRk8.out _ hBk8)
              | ((with_reducible apply stB_P); exact rfl; exact rfl; exact HMI.out.p; exact rfl; exact rfl; exact one2 _ _ _ _
                 refine wpL_folded (fun wd => MI w base bP (bP + 1) i (.slice (some ⟨gA, 0, none⟩) i cA) G bk8 ak8 nk8 dk8 m0 (.slice p6 LL.length c6) LL V1 wd) (HMI.out.prev HG.out (Nat.lt_succ_self _) HbP.out hbig8) ?_
                 rintro w9 h9))
            go_roundg (i - (k + 1))
            case measure => omega
            case rel => exact ⟨k + 1, V1, bk8, ak8, nk8, dk8, LL, hlt, Nat.le_refl _, rfl, HP3.out, by rw [HN2.out]; exact HLn.out, by rw [HN1.out, HN2.out, show i - (k + 1) = s by omega]; exact HD3.out, HL3.out, by rw [HN1.out]; exact h9⟩
      · have ds : decide (sgn m0 ≤ 0) = true := by unfold sgn; rw [decide_eq_true]; split <;> (try split) <;> omega
        have hT : LL = T := by have h := HD2.out; rw [if_neg hp, List.append_nil] at h; exact h
        subst hT
        clear HD2
        go_wp2_with (first
          | ((with_reducible apply ldB2_P); exact rfl; exact rfl; exact HRk6.out _ hBk6)
          | (go_at_call 52; (with_reducible refine (HSg.out _ _ hbig6).mono ?_); rintro r w7 ⟨rfl, hu7⟩))
        go_ret
        exact ⟨_, rfl, hu7.below H6.out.u (Nat.le_trans HB0.out H6.out.u.size), (H6.out.l.up hu7).bv⟩
    · obtain rfl : k = n := by omega
      have hT : L = T := by have h := HDone.out; rw [Nat.sub_self] at h; rw [← h]; show L = L ++ []; rw [List.append_nil]
      subst hT
      clear HDone HR HLeft HPos
      go_wp2_with fail
      go_ret
      exact ⟨_, rfl, HMI.out.u, HMI.out.l.bv⟩
theorem all_last {s : Nat} {V : Nat → Nat → Int} (hl : (mins (s + 1) 1 V).length = s + 1) : ((mins (s + 1) 1 V).all fun x => decide (0 < x)) = decide (0 < zth (mins (s + 1) 1 V) s) := by
  have h := mins_all (s + 1) 1 V
  rw [Bool.eq_iff_iff, List.all_eq_true, decide_eq_true_iff]
  simp only [decide_eq_true_iff]
  rw [h]
  unfold zth
  constructor
  · rintro (h | ⟨_, h⟩)
    · omega
    · exact h
  · exact fun h => .inr ⟨hl, h⟩
theorem all_short {s : Nat} {V : Nat → Nat → Int} (hl : (mins (s + 1) 1 V).length ≠ s + 1) : ((mins (s + 1) 1 V).all fun x => decide (0 < x)) = false := by
  rw [Bool.eq_false_iff, Ne, List.all_eq_true]
  simp only [decide_eq_true_iff]
  rw [mins_all (s + 1) 1 V]
  rintro (h | ⟨h, _⟩)
  · omega
  · exact hl h
theorem sgn_gt (z : Int) : decide (0 < sgn z) = decide (0 < z) := by
  unfold sgn
  rw [Bool.eq_iff_iff, decide_eq_true_iff, decide_eq_true_iff]
  split <;> (try split) <;> omega
theorem RE_AM {n : Nat} (l : List Int) : ∀ i j, i < n → j < n → RE n l 1 0 i j = AM n l i j := fun i j hi hj => by
  unfold RE
  rw [AM_at hi hj, Int.one_mul, ite_self, Int.add_zero]
set_option maxHeartbeats 4000000 in
theorem rdefinite_any {w : World} {base n B : Nat} {av : Value} {G : Nat → Nat} {V : Nat → Nat → Int} (h : OwnM w base av n n G V) (hn : n ≤ 8) (hB : B ≤ 100) (hR : Run B n V) (hb : base ≤ w.heap.size) :
    Calls Tryz.prog 56 #[av] w fun r w' => r = .returned (.bool ((mins n 1 V).all fun x => decide (0 < x))) ∧ Below base w w' := by
  have HMn := hid (rminors_any h hn hB hR hb)
  obtain ⟨pA, cA, rfl⟩ := h.slice
  have HB0 := hid hb
  clear h hR hb hB
  rcases n with _ | s
  · rw [show ((mins 0 1 V).all fun x => decide (0 < x)) = true from rfl]
    obtain ⟨T, hT⟩ : ∃ T, mins 0 1 V = T := ⟨_, rfl⟩
    rw [hT] at HMn
    clear hT
    go_enter Tryz.func56, Tryz.ntmps56
    go_wp2_with (first
      | (go_at_call 55; (with_reducible refine HMn.out.mono ?_); rintro r w2 ⟨z2, rfl, hB2, hz2⟩; obtain ⟨p2, c2, rfl⟩ := hz2.slice))
    go_ret
    exact ⟨rfl, hB2⟩
  · have dn : ((s : Int) + 1 == 0) = false := by simp; omega
    by_cases hl : (mins (s + 1) 1 V).length = s + 1
    · rw [all_last hl]
      have HL := hid hl
      obtain ⟨T, hT⟩ : ∃ T, mins (s + 1) 1 V = T := ⟨_, rfl⟩
      rw [hT] at HMn HL ⊢
      obtain ⟨z, hz⟩ : ∃ z, zth T s = z := ⟨_, rfl⟩
      have HZ := hid hz
      rw [hz, ← sgn_gt]
      have HSg := hid (fun w v (h : Big w v z) => rsign_big h)
      have ei : IntKind.i64.wrap (((s + 1 : Nat) : Int) - 1) = (s : Int) := by rw [show (((s + 1 : Nat) : Int) - 1) = s by omega]; exact IntWalk.i64_in _ (by omega)
      clear hT hl hz
      go_enter Tryz.func56, Tryz.ntmps56
      go_upto_region 2 with (first
        | (go_at_call 55; (with_reducible refine HMn.out.mono ?_); rintro r w2 ⟨z2, rfl, hB2, hz2⟩))
      obtain ⟨g, cap, C, rfl, hcp, hBC, hE⟩ := hz2.open (by rw [HL.out]; omega)
      obtain ⟨b, a, m, c, h1, h2, h3⟩ := hE s (by rw [HL.out]; omega)
      rw [HZ.out] at h3
      have HRk := hid (fun w' (hB : Blk w' g 46 C) => bigAt_range hB h1 h2)
      clear hE h1 h2
      rw [HL.out]
      rw [HL.out] at hcp
      go_wp2_with (first
        | ((with_reducible apply ldB2_P); exact rfl; exact rfl; exact HRk.out _ hBC)
        | (go_at_call 52; (with_reducible refine (HSg.out _ _ h3).mono ?_); rintro r w7 ⟨rfl, hu7⟩))
      go_ret
      exact ⟨rfl, hu7.below hB2 (Nat.le_trans HB0.out hB2.size)⟩
    · rw [all_short hl]
      have dl : (((mins (s + 1) 1 V).length : Int) == (s : Int) + 1) = false := by simp; omega
      obtain ⟨T, hT⟩ : ∃ T, mins (s + 1) 1 V = T := ⟨_, rfl⟩
      rw [hT] at HMn dl
      clear hT hl
      go_enter Tryz.func56, Tryz.ntmps56
      go_wp2_with (first
        | (go_at_call 55; (with_reducible refine HMn.out.mono ?_); rintro r w2 ⟨z2, rfl, hB2, hz2⟩; obtain ⟨p2, c2, rfl⟩ := hz2.slice))
      go_ret
      exact ⟨rfl, hB2⟩
set_option maxHeartbeats 4000000 in
theorem rDefinite_any {v : Value} {N : Int} {l : List Int} {w : World} (hm : Sm w v N l) :
    Calls Tryz.prog 19 #[v] w fun r w' => r = .returned (.bool (dfV N l)) ∧ Up w w' := by
  have HRT := hid (fun w' (hu : Up w w') => rright_any (hm.up hu))
  have HSm := hid hm
  obtain ⟨s0, rfl, ⟨p, cap, rfl, -, -⟩, -, -, -⟩ := hm
  have hB := Blk.new (w := w) (b := w.heap.size) 24 #[.int .i64 N, .slice p l.length cap] rfl
  have hU := Up.alloc w (.cells #[.int .i64 N, .slice p l.length cap] 24)
  obtain ⟨W0, hW0⟩ : ∃ W0, w.alloc (.cells #[.int .i64 N, .slice p l.length cap] 24) = W0 := ⟨_, rfl⟩
  rw [hW0] at hB hU
  cases hR : rt N l with
  | false =>
    rw [hR] at HRT
    rw [show dfV N l = false from by unfold dfV; rw [hR, Bool.and_false]]
    clear hR
    go_enter Tryz.func19, Tryz.ntmps19
    go_wp2_with (first
      | ((with_reducible apply ldM_P); exact rfl; exact rfl; exact hB; exact rfl)
      | (go_at_call 12; (with_reducible refine (HRT.out _ hU).mono ?_); rintro r w1 ⟨rfl, hu1⟩))
    go_ret
    exact ⟨rfl, hU.trans hu1⟩
  | true =>
    rw [hR] at HRT
    obtain ⟨n0, n8, _, _⟩ := rt_spec hR
    obtain ⟨n, rfl⟩ : ∃ n : Nat, N = (n : Int) := ⟨N.toNat, by omega⟩
    have HRW := hid (fun w' (hu : Up w w') => rows_any (HSm.out.up hu) hR (s := 1) (k := 0) (by unfold I64; omega) (by unfold I64; omega))
    have HDF := hid (fun w' b z G (hb : b ≤ w'.heap.size) (hO : OwnM w' b z n n G (RE n l 1 0)) => rdefinite_any (hO.congr (RE_AM l)) (by omega) (by decide) (run_AM hR) hb)
    have e : dfV n l = ((mins n 1 (AM n l)).all fun x => decide (0 < x)) := by unfold dfV mnR; rw [hR, if_pos rfl, Bool.and_true]; rfl
    rw [← e] at HDF
    obtain ⟨T, hT⟩ : ∃ T, dfV n l = T := ⟨_, rfl⟩
    rw [hT] at HDF ⊢
    clear e hT hR n0 n8
    go_enter Tryz.func19, Tryz.ntmps19
    go_wp2_with (first
      | ((with_reducible apply ldM_P); exact rfl; exact rfl; (first | exact hB | exact hB1); exact rfl)
      | (go_at_call 12; (with_reducible refine (HRT.out _ hU).mono ?_); rintro r w1 ⟨rfl, hu1⟩; have hB1 := hB.up hu1; have hU1 := hU.trans hu1)
      | (go_at_call 51; (with_reducible refine (HRW.out _ hU1).mono ?_); rintro r w2 ⟨z2, b2, G2, rfl, hu2, hb2, hb3, hO2⟩)
      | (go_at_call 56; (with_reducible refine (HDF.out _ _ _ _ hb3 hO2).mono ?_); rintro r w3 ⟨rfl, hB3⟩))
    go_ret
    exact ⟨rfl, Below.trans (hU1.trans hu2) (Below.mono hB3 (Nat.le_trans hU1.size hb2))⟩
def ps (n k i : Nat) : Nat := if k ≤ i then i - k else n - k + i
def Gj (n k : Nat) (M V : Nat → Nat → Int) : Prop := ∀ i j, i < n → k ≤ j → j ≤ n → V i j = M (ps n k i) (j - k)
def stepV (k : Nat) (q : Int) (V : Nat → Nat → Int) : Nat → Nat → Int := fun i j => if i = k then V i j else if j ≤ k then (if j = i then V k k else 0) else (V k k * V i j - V i k * V k j).tdiv q
theorem Gj.next {n k : Nat} {q : Int} {M V : Nat → Nat → Int} (h : Gj n k M V) (hk : k < n) (hl : ∀ j, nxt q M (n - 1) j = M 0 (j + 1)) : Gj n (k + 1) (nxt q M) (stepV k q V) := fun i j hi h1 h2 => by
  have p0 : ps n k k = 0 := by unfold ps; rw [if_pos (Nat.le_refl _), Nat.sub_self]
  unfold stepV
  by_cases e : i = k
  · subst e
    rw [if_pos rfl, h i j hi (by omega) h2, p0, show ps n (i + 1) i = n - 1 from by unfold ps; rw [if_neg (by omega)]; omega, hl]
    congr 1
    omega
  · rw [if_neg e, if_neg (by omega), h k k hk (Nat.le_refl _) (by omega), h i j hi (by omega) h2, h i k hi (Nat.le_refl _) (by omega), h k j hk (by omega) h2, p0, Nat.sub_self]
    unfold nxt chio
    rw [show ps n (k + 1) i + 1 = ps n k i from by unfold ps; split <;> split <;> omega, show j - (k + 1) + 1 = j - k by omega]
theorem Gj.start {n : Nat} {A : Nat → Nat → Int} : Gj n 0 A A := fun i j _ _ _ => by unfold ps; rw [if_pos (Nat.zero_le _)]; rfl
theorem Gj.end_ {n : Nat} {M V : Nat → Nat → Int} (h : Gj n n M V) {i : Nat} (hi : i < n) : V i n = M i 0 := by
  rw [h i n hi (Nat.le_refl _) (Nat.le_refl _), Nat.sub_self]
  congr 1
  unfold ps
  rw [if_neg (by omega)]
  omega
theorem wp_bsB {o : Oper} {a : Act} {K : Act → World → Prop} {Q : Exit → Act → World → Prop} {w : World} {s : Tmp} {b : Bool} {p : Option Addr} {m n : Nat} (ho : o.op = .buildSlice 49 1 #[(0, .tmp s)]) (hs : a.eval (.tmp s) = .agg #[.bool b, .slice p m n])
    (h : K (a.put o.dst (.slice (some ⟨w.heap.size, 0, none⟩) 1 1)) (w.alloc (.cells #[.bool b, .slice p m n] 46))) : o.wp Tryz.prog a w K Q := by
  obtain ⟨i0, hi0, he⟩ := Option.map_eq_some_iff.1 infoBs
  simp only [Prod.mk.injEq] at he
  refine wp_buildSlice 49 46 1 _ ho #[.bool b, .slice p m n] i0 _ undBs hi0 he.1 (by rw [he.2.1]; decide) (by rw [he.2.1]; decide) ?_ h
  simp only [List.map_toArray, List.map_cons, List.map_nil, hs, he.2.1]
  exact fill_oneB _ _ _ _ _
theorem undRF : Tryz.prog.underlying 62 = some (.slice 77) := by kernel_rfl
theorem infoRF : (Tryz.prog.info? 77).map (fun i => (i.zero, i.size, i.bytes)) = some (some (.agg #[.bool false, .slice none 0 0, .bool false, .slice none 0 0]), 4, 64) := by kernel_rfl
def BigF (w : World) (get : Nat → Option Value) (i : Nat) (z D : Int) : Prop :=
  ∃ b a n c b' a' n' c', get (i * 4) = some (.bool b) ∧ get (i * 4 + 1) = some (.slice a n c) ∧ get (i * 4 + 2) = some (.bool b') ∧ get (i * 4 + 3) = some (.slice a' n' c') ∧ Big w (.agg #[.bool b, .slice a n c]) z ∧ Big w (.agg #[.bool b', .slice a' n' c']) D
theorem BigF.up {w w' : World} (hu : Up w w') {get : Nat → Option Value} {i : Nat} {z D : Int} (h : BigF w get i z D) : BigF w' get i z D := by
  obtain ⟨b, a, n, c, b', a', n', c', h1, h2, h3, h4, h5, h6⟩ := h
  exact ⟨b, a, n, c, b', a', n', c', h1, h2, h3, h4, h5.up hu, h6.up hu⟩
def OwnRF (w : World) (base : Nat) (v : Value) (D : Int) (l : List Int) : Prop :=
  ∃ xs : List Value, w.ownsRow base 77 4 v l.length xs ∧ ∀ i, i < l.length → BigF w (fun k => xs[k]?) i (zth l i) D
theorem OwnRF.up {w w' : World} (hu : Up w w') {base : Nat} {v : Value} {D : Int} {l : List Int} (h : OwnRF w base v D l) : OwnRF w' base v D l := by
  obtain ⟨xs, h1, h2⟩ := h
  exact ⟨xs, World.ownsRow.up h1 hu, fun i hi => (h2 i hi).up hu⟩
theorem OwnRF.nil (w : World) (base : Nat) (D : Int) : OwnRF w base (.slice none 0 0) D [] := ⟨[], World.ownsRow_nil _ _ _ _, fun _ hi => absurd hi (Nat.not_lt_zero _)⟩
def RFv (w : World) (v : Value) (D : Int) (l : List Int) : Prop :=
  (l = [] ∧ ∃ p c, v = .slice p 0 c) ∨ ∃ g cap C, v = .slice (some ⟨g, 0, none⟩) l.length cap ∧ l.length ≤ cap ∧ Blk w g 77 C ∧ ∀ i, i < l.length → BigF w (fun k => C[k]?) i (zth l i) D
theorem RFv.up {w w' : World} (hu : Up w w') {v : Value} {D : Int} {l : List Int} (h : RFv w v D l) : RFv w' v D l := by
  rcases h with h | ⟨g, cap, C, h1, h2, h3, h4⟩
  · exact .inl h
  · exact .inr ⟨g, cap, C, h1, h2, h3.up hu, fun i hi => (h4 i hi).up hu⟩
theorem RFv.slice {w : World} {v : Value} {D : Int} {l : List Int} (h : RFv w v D l) : ∃ p c, v = .slice p l.length c := by
  rcases h with ⟨rfl, p, c, rfl⟩ | ⟨g, cap, C, rfl, _⟩
  · exact ⟨p, c, rfl⟩
  · exact ⟨_, cap, rfl⟩
theorem RFv.open {w : World} {v : Value} {D : Int} {l : List Int} (h : RFv w v D l) (h0 : 0 < l.length) :
    ∃ g cap C, v = .slice (some ⟨g, 0, none⟩) l.length cap ∧ l.length ≤ cap ∧ Blk w g 77 C ∧ ∀ i, i < l.length → BigF w (fun k => C[k]?) i (zth l i) D := by
  rcases h with ⟨rfl, _⟩ | h
  · exact absurd h0 (by decide)
  · exact h
theorem OwnRF.rfv {w : World} {base : Nat} {v : Value} {D : Int} {l : List Int} (h : OwnRF w base v D l) : RFv w v D l := by
  obtain ⟨xs, ⟨_, ⟨rfl, h1⟩ | ⟨g, cap, cur, rfl, hb, hB, hc, hm, hs, ht⟩⟩, h2⟩ := h
  · exact .inl ⟨List.length_eq_zero_iff.1 h1, _, _, rfl⟩
  · refine .inr ⟨g, cap, cur, rfl, hc, hB, fun i hi => ?_⟩
    obtain ⟨b, a, n, c, b', a', n', c', e1, e2, e3, e4, e5, e6⟩ := h2 i hi
    have key : ∀ k u, k < l.length * 4 → xs[k]? = some u → cur[k]? = some u := fun k u hk hx => by
      rw [← ht, List.getElem?_take_of_lt hk, Array.getElem?_toList] at hx; exact hx
    exact ⟨b, a, n, c, b', a', n', c', key _ _ (by omega) e1, key _ _ (by omega) e2, key _ _ (by omega) e3, key _ _ (by omega) e4, e5, e6⟩
theorem OwnRF.slice {w : World} {base : Nat} {v : Value} {D : Int} {l : List Int} (h : OwnRF w base v D l) : ∃ p c, v = .slice p l.length c := h.rfv.slice
theorem Big.grownF {w w' : World} {row : Option Nat} {v : Value} {z : Int} (h : Big w v z) (hg : w.grownBy w' row) (hr : ∀ k, row = some k → ∃ C, Blk w k 77 C) : Big w' v z := by
  obtain ⟨a, c, h1, a2, c2, h2, h3, h4⟩ := h
  refine ⟨a, c, h1, a2, c2, h2, h3, fun h0 => ?_⟩
  obtain ⟨b, E, h5, h6, h7⟩ := h4 h0
  refine ⟨b, E, h5, ?_, h7⟩
  unfold Blk
  rw [hg.block b h6.lt ?_]
  · exact h6
  · intro e
    obtain ⟨C, hC⟩ := hr b e.symm
    unfold Blk at hC h6
    rw [hC] at h6
    simp at h6
theorem wp_bsRF {o : Oper} {a : Act} {K : Act → World → Prop} {Q : Exit → Act → World → Prop} {w : World} {s : Tmp} {b b' : Bool} {p p' : Option Addr} {m n m' n' : Nat} (ho : o.op = .buildSlice 62 1 #[(0, .tmp s)]) (hs : a.eval (.tmp s) = .agg #[.bool b, .slice p m n, .bool b', .slice p' m' n'])
    (h : K (a.put o.dst (.slice (some ⟨w.heap.size, 0, none⟩) 1 1)) (w.alloc (.cells #[.bool b, .slice p m n, .bool b', .slice p' m' n'] 77))) : o.wp Tryz.prog a w K Q := by
  obtain ⟨i0, hi0, he⟩ := Option.map_eq_some_iff.1 infoRF
  simp only [Prod.mk.injEq] at he
  refine wp_buildSlice 62 77 1 _ ho #[.bool b, .slice p m n, .bool b', .slice p' m' n'] i0 _ undRF hi0 he.1 (by rw [he.2.1]; decide) (by rw [he.2.1]; decide) ?_ h
  simp only [List.map_toArray, List.map_cons, List.map_nil, hs, he.2.1]
  kernel_rfl
theorem wp_appRF {o : Oper} {a : Act} {K : Act → World → Prop} {Q : Exit → Act → World → Prop} {w : World} {base g c : Nat} {v : Value} {l : List Int} {b b' : Bool} {p p' : Option Addr} {m k m' k' : Nat} {z D : Int} (s u : Operand)
    (ho : o.op = .call { callee := .builtin .append, args := #[s, u], argTypes := #[62, 62] })
    (hs : a.eval s = v) (hu : a.eval u = .slice (some ⟨g, 0, none⟩) 1 c) (hown : OwnRF w base v D l) (hV : Blk w g 77 #[.bool b, .slice p m k, .bool b', .slice p' m' k']) (hz : Big w (.agg #[.bool b, .slice p m k]) z) (hD : Big w (.agg #[.bool b', .slice p' m' k']) D) (hbase : base ≤ w.heap.size) (hl : l.length < 1000000)
    (h : ∀ v' w', OwnRF w' base v' D (l ++ [z]) → Below base w w' → K (a.put o.dst v') w') : o.wp Tryz.prog a w K Q := by
  obtain ⟨i0, hi0, he⟩ := Option.map_eq_some_iff.1 infoRF
  simp only [Prod.mk.injEq] at he
  obtain ⟨xs, hx, hE⟩ := hown
  have hlt := World.ownsRow.lt hx
  have hrow : ∀ q, v.ownBlock = some q → ∃ C, Blk w q 77 C := by
    intro q hq
    obtain ⟨_, ⟨rfl, _⟩ | ⟨g', cap, cur, rfl, _, hB, _⟩⟩ := hx
    · simp [Value.ownBlock] at hq
    · simp [Value.ownBlock] at hq; subst hq; exact ⟨cur, hB⟩
  have hxl : xs.length = l.length * 4 := hx.1
  refine wp_append_own (w := w) s u 62 ho base 77 i0 _ 4 64 undRF hi0 he.1 he.2.1 he.2.2 rfl (by decide) v l.length xs hs hx ⟨g, 0, none⟩ 1 c [.bool b, .slice p m k, .bool b', .slice p' m' k'] hu rfl (fun j y hy => by
    rw [Addr.add_mid, Nat.zero_add]; exact hV.cell j (by rw [List.getElem?_toArray]; exact hy)) (by simp [Value.oneCell']) (by unfold maxLen; omega) (by omega) hbase ?_
  intro v' w' h1 h2 _
  refine h v' w' ⟨xs ++ [.bool b, .slice p m k, .bool b', .slice p' m' k'], by rw [List.length_append]; exact h1, fun i hi => ?_⟩ ⟨h2.os, h2.tape, h2.output, h2.size, fun q hq => h2.block q (by omega) fun e => ?_⟩
  · rw [List.length_append, List.length_singleton] at hi
    by_cases e : i < l.length
    · obtain ⟨b1, a1, n1, c1, b2, a2, n2, c2, e1, e2, e3, e4, e5, e6⟩ := hE i e
      have ez : zth (l ++ [z]) i = zth l i := by unfold zth; rw [List.getD_eq_getElem?_getD, List.getD_eq_getElem?_getD, List.getElem?_append_left e]
      rw [ez]
      have key : ∀ k u, k < l.length * 4 → xs[k]? = some u → (xs ++ [Value.bool b, .slice p m k, .bool b', .slice p' m' k'])[k]? = some u := fun k u hk hx => by rw [List.getElem?_append_left (by omega)]; exact hx
      refine ⟨b1, a1, n1, c1, b2, a2, n2, c2, ?_, ?_, ?_, ?_, e5.grownF h2 hrow, e6.grownF h2 hrow⟩ <;> (dsimp only; rw [List.getElem?_append_left (by omega)]; assumption)
    · obtain rfl : i = l.length := by omega
      have ez : zth (l ++ [z]) l.length = z := by unfold zth; rw [List.getD_eq_getElem?_getD, List.getElem?_append_right (Nat.le_refl _), Nat.sub_self]; rfl
      rw [ez]
      refine ⟨b, p, m, k, b', p', m', k', ?_, ?_, ?_, ?_, hz.grownF h2 hrow, hD.grownF h2 hrow⟩ <;> (dsimp only; rw [List.getElem?_append_right (by omega), hxl])
      · rw [Nat.sub_self]; rfl
      · rw [show l.length * 4 + 1 - l.length * 4 = 1 by omega]; rfl
      · rw [show l.length * 4 + 2 - l.length * 4 = 2 by omega]; rfl
      · rw [show l.length * 4 + 3 - l.length * 4 = 3 by omega]; rfl
  · have := hlt q e.symm
    omega
theorem OwnG.open {w : World} {base n : Nat} {v : Value} {mf G : Nat → Nat} {V : Nat → Nat → Int} (h : OwnG w base v n mf G V) (h0 : 0 < n) :
    ∃ g cap C, v = .slice (some ⟨g, 0, none⟩) n cap ∧ base ≤ g ∧ Blk w g 49 C ∧ ∀ i, i < n → ∃ c, C[i]? = some (.slice (some ⟨G i, 0, none⟩) (mf i) c) ∧ OwnB w base (.slice (some ⟨G i, 0, none⟩) (mf i) c) (mk (mf i) (V i)) := by
  obtain ⟨xs, Cp, ⟨_, h1 | ⟨g, cap, cur, hv, hb, hB, hc, _, _, ht⟩⟩, h2, h3, _⟩ := h
  · omega
  · refine ⟨g, cap, cur, hv, hb, hB, fun i hi => ⟨Cp i, ?_, (h3 i hi).2.2⟩⟩
    have h4 := h2 i hi
    rw [← ht, List.getElem?_take_of_lt (by omega), Array.getElem?_toList] at h4
    exact h4
theorem splus_any {a b : Int} {w : World} (ha : InR a) (hb' : InR b) (hab : InR (a + b)) :
    Calls Tryz.prog 70 #[wideV (enc a), wideV (enc b)] w fun r w' => r = .returned (wideV (enc (a + b))) ∧ Up w w' := by
  have HA := hid (fun w => add_z ha hb' w)
  rw [opt_yes hab] at HA
  clear ha hb' hab
  unfold wideV at *
  go_enter Tryz.func70, Tryz.ntmps70
  go_wp2_with (first | ((with_reducible apply ld_rowP undW infoW); exact rfl; exact rfl; exact gRow) | ((with_reducible apply st_rowP infoW); exact rfl; exact rfl; exact gRow) | ((with_reducible apply st_rowZ infoW); exact rfl; exact rfl; exact gRow) | (go_at_call 103; (with_reducible refine (HA.out _).mono ?_); rintro e w1 ⟨rfl, hu⟩; have hs1 := hu.size; simp at hs1))
  exact bodyPost_ret (res1 rfl undW infoW _ _ rfl gRow) rfl ⟨rfl, gUp⟩
theorem sless_any {a b : Int} {w : World} (ha : InR a) (hb' : InR b) (hab : InR (a - b)) :
    Calls Tryz.prog 94 #[wideV (enc a), wideV (enc b)] w fun r w' => r = .returned (wideV (enc (a - b))) ∧ Up w w' := by
  have HA := hid (fun w => sub_z ha hb' w)
  rw [opt_yes hab] at HA
  clear ha hb' hab
  unfold wideV at *
  go_enter Tryz.func94, Tryz.ntmps94
  go_wp2_with (first | ((with_reducible apply ld_rowP undW infoW); exact rfl; exact rfl; exact gRow) | ((with_reducible apply st_rowP infoW); exact rfl; exact rfl; exact gRow) | ((with_reducible apply st_rowZ infoW); exact rfl; exact rfl; exact gRow) | (go_at_call 110; (with_reducible refine (HA.out _).mono ?_); rintro e w1 ⟨rfl, hu⟩; have hs1 := hu.size; simp at hs1))
  exact bodyPost_ret (res1 rfl undW infoW _ _ rfl gRow) rfl ⟨rfl, gUp⟩
theorem stimes_any {a b : Int} {w : World} (ha : InR a) (hb' : InR b) (hab : InR (a * b)) :
    Calls Tryz.prog 71 #[wideV (enc a), wideV (enc b)] w fun r w' => r = .returned (wideV (enc (a * b))) ∧ Up w w' := by
  have HA := hid (fun w => mul_z ha hb' w)
  rw [opt_yes hab] at HA
  clear ha hb' hab
  unfold wideV at *
  go_enter Tryz.func71, Tryz.ntmps71
  go_wp2_with (first | ((with_reducible apply ld_rowP undW infoW); exact rfl; exact rfl; exact gRow) | ((with_reducible apply st_rowP infoW); exact rfl; exact rfl; exact gRow) | ((with_reducible apply st_rowZ infoW); exact rfl; exact rfl; exact gRow) | (go_at_call 104; (with_reducible refine (HA.out _).mono ?_); rintro e w1 ⟨rfl, hu⟩; have hs1 := hu.size; simp at hs1))
  exact bodyPost_ret (res1 rfl undW infoW _ _ rfl gRow) rfl ⟨rfl, gUp⟩
theorem samount_any {a : Int} {w : World} (ha : a.natAbs < bp 14) :
    Calls Tryz.prog 93 #[wideV (enc a)] w fun r w' => r = .returned (wideV (enc (a.natAbs : Int))) ∧ Up w w' := by
  have hI : InR a := inR_bp (by omega) ha
  have h0 : InR 0 := inR_bp (k := 1) (by omega) (bp_pos 1)
  have hI2 : InR (0 - a) := inR_bp (k := 14) (by omega) (by rw [Int.zero_sub, Int.natAbs_neg]; exact ha)
  have HS := hid (fun w => sign_z hI w)
  have HL := hid (fun w => sless_any (w := w) h0 hI hI2)
  have e0 : cells 16 (limb (enc 0)) = #[.int .u64 0, .int .u64 0, .int .u64 0, .int .u64 0, .int .u64 0, .int .u64 0, .int .u64 0, .int .u64 0, .int .u64 0, .int .u64 0, .int .u64 0, .int .u64 0, .int .u64 0, .int .u64 0, .int .u64 0, .int .u64 0] := by rw [← zero_limb, zeros16]
  unfold wideV at *
  rw [e0, Int.zero_sub] at HL
  by_cases hn : a < 0
  · have ds : decide (sgn a < 0) = true := by unfold sgn; rw [if_pos hn]; rfl
    have e : ((a.natAbs : Nat) : Int) = -a := by omega
    rw [e]
    clear ha hI hI2 h0 e hn e0
    go_enter Tryz.func93, Tryz.ntmps93
    go_wp2_with (first
      | ((with_reducible apply ld_rowP undW infoW); exact rfl; exact rfl; exact gRow)
      | ((with_reducible apply st_rowP infoW); exact rfl; exact rfl; exact gRow) | ((with_reducible apply st_rowZ infoW); exact rfl; exact rfl; exact gRow)
      | (go_at_call 47; (with_reducible refine (HS.out _).mono ?_); rintro e w1 ⟨rfl, hu1⟩; have hs1 := hu1.size; (try simp at hs1))
      | (go_at_call 94; (with_reducible refine (HL.out _).mono ?_); rintro e w2 ⟨rfl, hu2⟩; have hs2 := hu2.size))
    exact bodyPost_ret (res1 rfl undW infoW _ _ rfl gRow) rfl ⟨rfl, gUp⟩
  · have ds : decide (sgn a < 0) = false := by unfold sgn; rw [if_neg hn]; split <;> rfl
    have e : ((a.natAbs : Nat) : Int) = a := by omega
    rw [e]
    clear ha hI hI2 h0 e hn HL e0
    go_enter Tryz.func93, Tryz.ntmps93
    go_wp2_with (first
      | ((with_reducible apply ld_rowP undW infoW); exact rfl; exact rfl; exact gRow)
      | ((with_reducible apply st_rowP infoW); exact rfl; exact rfl; exact gRow) | ((with_reducible apply st_rowZ infoW); exact rfl; exact rfl; exact gRow)
      | (go_at_call 47; (with_reducible refine (HS.out _).mono ?_); rintro e w1 ⟨rfl, hu1⟩; have hs1 := hu1.size; (try simp at hs1)))
    exact bodyPost_ret (res1 rfl undW infoW _ _ rfl gRow) rfl ⟨rfl, gUp⟩
def vfit (x : Int) : Bool := decide (x.natAbs ≤ 72057594037927936)
theorem sfits_any {x : Int} (h : I64 x) (w : World) :
    Calls Tryz.prog 65 #[.int .i64 x] w fun r w' => r = .returned (.bool (vfit x)) ∧ Up w w' := by
  have HA := hid (fun w => fx_amount x h.1 h.2 w)
  by_cases hb : x.natAbs < 9223372036854775808
  · rw [i64V_yes (by omega)] at HA
    have e : vfit x = decide ((x.natAbs : Int) ≤ 72057594037927936) := by unfold vfit; rw [decide_eq_decide]; omega
    rw [e]
    generalize ((x.natAbs : Nat) : Int) = a at *
    clear e hb h
    go_enter Tryz.func65, Tryz.ntmps65
    go_wp2_with (first | (go_at_call 100; (with_reducible refine (HA.out _).mono ?_); rintro e w1 ⟨rfl, hu1⟩))
    go_ret
    exact ⟨rfl, hu1⟩
  · rw [i64V_no (by omega)] at HA
    have e : vfit x = false := by unfold vfit; exact decide_eq_false (by omega)
    rw [e]
    clear e hb h
    go_enter Tryz.func65, Tryz.ntmps65
    go_wp2_with (first | (go_at_call 100; (with_reducible refine (HA.out _).mono ?_); rintro e w1 ⟨rfl, hu1⟩))
    go_ret
    exact ⟨rfl, hu1⟩
def solveB : ByteArray := ⟨#[115, 111, 108, 118, 101]⟩
def ErrsP (B : ByteArray) (w : World) (u : Value) (e : Int) : Prop := (e = 0 ∧ u = .nilIface) ∨ (e ≠ 0 ∧ ∃ t x, u = .iface t x ∧ IsEr w u (.flt B (.num e)))
theorem ErrsP.up {B : ByteArray} {w w' : World} (hu : Up w w') {u : Value} {e : Int} (h : ErrsP B w u e) : ErrsP B w' u e := by
  rcases h with h | ⟨h1, t, x, h2, h3⟩
  · exact .inl h
  · exact .inr ⟨h1, t, x, h2, h3.up hu⟩
theorem swrong_any (n : Int) (h0 : n ≠ 0) (w : World) :
    Calls Tryz.prog 66 #[.iface 90 (.int .i64 n)] w fun r w' => ∃ u, r = .returned u ∧ Up w w' ∧ ErrsP solveB w' u n := by
  have HW := hid (fun w => wrap_any (op := { data := #[115, 111, 108, 118, 101] }) (v := .iface 90 (.int .i64 n)) (e := .num n) (w := w) rfl)
  go_enter Tryz.func66, Tryz.ntmps66
  go_wp2_with (first | (go_at_call 77; (with_reducible refine (HW.out _).mono ?_); rintro r w1 ⟨u1, rfl, hu1, h1⟩))
  go_ret
  obtain ⟨t, u, rfl⟩ := h1.iface
  exact ⟨_, rfl, hu1, .inr ⟨h0, t, u, rfl, h1⟩⟩
def Lv (w : World) (v : Value) (Ls : List (List Int)) : Prop :=
  ∃ p cap, v = .slice p Ls.length cap ∧ ∀ i, i < Ls.length → ∃ a s, p = some a ∧ w.cell? (a.add i) = some s ∧ Vw w s (Ls.getD i [])
def ftC (N : Int) (l : List Int) (Ls : List (List Int)) : Int :=
  if rt N l = true ∧ (∀ i, i < Ls.length → ((Ls.getD i []).length : Int) = N) then (if ∀ i, i < Ls.length → (Ls.getD i []).all vfit = true then 0 else 21) else 23
set_option maxHeartbeats 8000000 in
theorem fitting_any {v vl : Value} {N : Int} {l : List Int} {Ls : List (List Int)} {w : World} (hm : Sm w v N l) (hL : Lv w vl Ls) (hI : ∀ i, In64 (Ls.getD i [])) (hs : ∀ i, (Ls.getD i []).length ≤ 1000) (h9 : Ls.length ≤ 9) :
    Calls Tryz.prog 73 #[v, vl] w fun r w' => ∃ u, r = .returned u ∧ Up w w' ∧ ErrsP solveB w' u (ftC N l Ls) := by
  have HR := hid (fun w' (hu : Up w w') => sright_any (hm.up hu))
  have HW23 := hid (fun w => swrong_any 23 (by decide) w)
  have HW21 := hid (fun w => swrong_any 21 (by decide) w)
  obtain ⟨s, rfl, ⟨p, cap, rfl, -, -⟩, -, -, -⟩ := hm
  obtain ⟨pL, cL, rfl, hE⟩ := hL
  obtain ⟨W0, hW0⟩ : ∃ W0, w.alloc (.cells #[.int .i64 N, .slice p l.length cap] 24) = W0 := ⟨_, rfl⟩
  have hB : Blk W0 w.heap.size 24 #[.int .i64 N, .slice p l.length cap] := by rw [← hW0]; exact Blk.new _ _ rfl
  have hU : Up w W0 := by rw [← hW0]; exact Up.alloc _ _
  cases hR : rt N l with
  | false =>
    have e : ftC N l Ls = 23 := by unfold ftC; rw [if_neg (by rw [hR]; simp)]
    rw [e]
    rw [hR] at HR
    clear e hR hE hI hs h9
    go_enter Tryz.func73, Tryz.ntmps73
    go_wp2_with (first
      | ((with_reducible apply ldM_P); exact rfl; exact rfl; exact hB; exact rfl)
      | (go_at_call 41; (with_reducible refine (HR.out _ hU).mono ?_); rintro r w1 ⟨rfl, hu1⟩)
      | (go_at_call 66; (with_reducible refine (HW23.out _).mono ?_); rintro r w2 ⟨u2, rfl, hu2, h2⟩))
    go_ret
    exact ⟨_, rfl, (hU.trans hu1).trans hu2, h2⟩
  | true =>
    rw [hR] at HR
    have HE := hid (fun w' (hu : Up w w') i (hi : i < Ls.length) => show ∃ a s, pL = some a ∧ w'.cell? (a.add i) = some s ∧ Vw w' s (Ls.getD i []) from by obtain ⟨a, s, h1, h2, h3⟩ := hE i hi; exact ⟨a, s, h1, hu.cellEq h2, h3.up hu⟩)
    have HI := hid hI
    have HS := hid hs
    have HC : Hid (ftC N l Ls = if (∀ i, i < Ls.length → ((Ls.getD i []).length : Int) = N) then (if ∀ i, i < Ls.length → (Ls.getD i []).all vfit = true then 0 else 21) else 23) := hid (by unfold ftC; simp only [hR, true_and])
    have hn9 : Ls.length < 1000000 := by omega
    clear hE hI hs hR
    obtain ⟨C, hC⟩ : ∃ C, ftC N l Ls = C := ⟨_, rfl⟩
    rw [hC] at HC ⊢
    clear hC
    go_enter Tryz.func73, Tryz.ntmps73
    go_wp2_with (first
      | ((with_reducible apply ldM_P); exact rfl; exact rfl; exact hB; exact rfl)
      | (go_at_call 41; (with_reducible refine (HR.out _ hU).mono ?_); rintro r w1 ⟨rfl, hu1⟩; replace hB := hB.up hu1; replace hU := hU.trans hu1))
    clear hu1 hW0
    go_loopg [18] Ls.length (fun g ti wr => ∃ i : Nat, i ≤ Ls.length ∧ Ls.length - i ≤ g ∧ ti = .int .i64 (i : Nat) ∧ (∀ j, j < i → ((Ls.getD j []).length : Int) = N) ∧ Up w1 wr)
    case atStart => exact ⟨0, Nat.zero_le _, by omega, rfl, fun j hj => absurd hj (Nat.not_lt_zero _), Up.refl _⟩
    case round =>
      obtain ⟨i, hi, hig, rfl, hz, hu⟩ := hrel
      have HZ := hid hz
      clear hz
      have hc0 := (hB.up hu).cell 0 rfl
      by_cases hlt : i < Ls.length
      · obtain ⟨ad, s, rfl, hcx, hV⟩ := HE.out _ (hU.trans hu) i hlt
        obtain ⟨ps, cs, rfl, -, -⟩ := hV
        have e1 : IntKind.i64.wrap ((i : Int) + 1) = (i : Int) + 1 := IntWalk.i64_in _ (by omega)
        obtain ⟨n, hn⟩ : ∃ n, (Ls.getD i []).length = n := ⟨_, rfl⟩
        have HN := hid hn
        rw [hn] at hcx
        clear hn
        by_cases hne : (n : Int) = N
        · have d1 : ((n : Int) != N) = false := by rw [hne]; simp
          have HNe := hid hne
          clear hne
          go_wp2_with fail
          go_roundg (Ls.length - (i + 1))
          case measure => omega
          case rel => exact ⟨i + 1, hlt, Nat.le_refl _, rfl, fun j hj => by
            rcases Nat.lt_succ_iff_lt_or_eq.1 hj with h | h
            · exact HZ.out j h
            · rw [h, HN.out]; exact HNe.out, hu⟩
        · have d1 : ((n : Int) != N) = true := by simpa using hne
          have HC2 : Hid (C = 23) := hid (by rw [HC.out]; exact if_neg fun h => hne (by have := h i hlt; rw [HN.out] at this; exact this))
          clear hne
          go_wp2_with (first
            | (go_at_call 66; (with_reducible refine (HW23.out _).mono ?_); rintro r w2 ⟨u2, rfl, hu2, h2⟩))
          go_ret
          exact ⟨_, rfl, (hU.trans hu).trans hu2, by rw [HC2.out]; exact h2⟩
      · obtain rfl : i = Ls.length := by omega
        have HC2 : Hid (C = if ∀ i, i < Ls.length → (Ls.getD i []).all vfit = true then 0 else 21) := hid (by rw [HC.out]; exact if_pos HZ.out)
        go_wp2_with fail
        obtain ⟨wO, hwO⟩ : ∃ y, wr = y := ⟨_, rfl⟩
        rw [hwO] at hu hc0 ⊢
        clear hwO
        go_loopg [32] Ls.length (fun g ti wr => ∃ i : Nat, i ≤ Ls.length ∧ Ls.length - i ≤ g ∧ ti = .int .i64 (i : Nat) ∧ (∀ j, j < i → (Ls.getD j []).all vfit = true) ∧ Up wO wr)
        case atStart => exact ⟨0, Nat.zero_le _, by omega, rfl, fun j hj => absurd hj (Nat.not_lt_zero _), Up.refl _⟩
        case round =>
          clear hc0
          obtain ⟨i, hi, hig, rfl, hz, hui⟩ := hrel
          have HY := hid hz
          clear hz
          by_cases hlt : i < Ls.length
          · obtain ⟨ad, s, rfl, hcx, hV⟩ := HE.out _ ((hU.trans hu).trans hui) i hlt
            have HV := hid hV
            obtain ⟨ps, cs, rfl, -, -⟩ := hV
            have e1 : IntKind.i64.wrap ((i : Int) + 1) = (i : Int) + 1 := IntWalk.i64_in _ (by omega)
            have HIi := hid (HI.out i)
            have hLi := HS.out i
            obtain ⟨x, hx⟩ : ∃ x, Ls.getD i [] = x := ⟨_, rfl⟩
            have HX := hid hx
            rw [hx] at hcx HV HIi hLi
            clear hx
            go_wp2_with fail
            obtain ⟨wI, hwI⟩ : ∃ y, wr = y := ⟨_, rfl⟩
            rw [hwI] at hui hcx HV ⊢
            clear hwI
            go_loopg [38] x.length (fun g tk wr => ∃ k : Nat, k ≤ x.length ∧ x.length - k ≤ g ∧ tk = .int .i64 (k : Nat) ∧ (∀ j, j < k → vfit (zth x j) = true) ∧ Up wI wr)
            case atStart => exact ⟨0, Nat.zero_le _, by omega, rfl, fun j hj => absurd hj (Nat.not_lt_zero _), Up.refl _⟩
            case round =>
              clear hcx
              obtain ⟨k, hk, hkg, rfl, hy, huk⟩ := hrel
              have HK := hid hy
              clear hy
              by_cases hkl : k < x.length
              · obtain ⟨q', cq', xq, _, hcq⟩ := HV.out
                injection xq with y1 y2 y3
                subst y1 y3
                obtain ⟨a2, rfl, hck⟩ := hcq k hkl
                replace hck := huk.cellEq hck
                have HF := hid (fun w => sfits_any (HIi.out k hkl) w)
                have e2 : IntKind.i64.wrap ((k : Int) + 1) = (k : Int) + 1 := IntWalk.i64_in _ (by omega)
                clear hcq y2
                obtain ⟨z, hz⟩ : ∃ z, zth x k = z := ⟨_, rfl⟩
                rw [hz] at hck HF
                have HZz := hid hz
                clear hz
                cases hf : vfit z with
                | true =>
                  rw [hf] at HF
                  have Hf := hid hf
                  clear hf
                  go_wp2_with (first
                    | (go_at_call 65; (with_reducible refine (HF.out _).mono ?_); rintro r w2 ⟨rfl, hu2⟩))
                  go_roundg (x.length - (k + 1))
                  case measure => omega
                  case rel => exact ⟨k + 1, hkl, Nat.le_refl _, rfl, fun j hj => by
                    rcases Nat.lt_succ_iff_lt_or_eq.1 hj with h | h
                    · exact HK.out j h
                    · rw [h, HZz.out]; exact Hf.out, huk.trans hu2⟩
                | false =>
                  rw [hf] at HF
                  have HC3 : Hid (C = 21) := hid (by
                    rw [HC2.out]
                    refine if_neg fun h => ?_
                    have h1 := List.all_eq_true.1 (h i hlt) (zth x k) (by rw [HX.out, zth_get hkl]; exact List.getElem_mem _)
                    rw [HZz.out, hf] at h1
                    cases h1)
                  clear hf
                  go_wp2_with (first
                    | (go_at_call 65; (with_reducible refine (HF.out _).mono ?_); rintro r w2 ⟨rfl, hu2⟩)
                    | (go_at_call 66; (with_reducible refine (HW21.out _).mono ?_); rintro r w3 ⟨u3, rfl, hu3, h3⟩))
                  go_ret
                  exact ⟨_, rfl, ((((hU.trans hu).trans hui).trans huk).trans hu2).trans hu3, by rw [HC3.out]; exact h3⟩
              · obtain rfl : k = x.length := by omega
                have hall : x.all vfit = true := List.all_eq_true.2 fun y hy => by
                  obtain ⟨j, hj, rfl⟩ := List.mem_iff_getElem.1 hy
                  have := HK.out j hj
                  rw [zth_get hj] at this
                  exact this
                have HA := hid hall
                clear hall
                go_wp2_with fail
                go_roundg (Ls.length - (i + 1))
                case measure => omega
                case rel => exact ⟨i + 1, hlt, Nat.le_refl _, rfl, fun j hj => by
                  rcases Nat.lt_succ_iff_lt_or_eq.1 hj with h | h
                  · exact HY.out j h
                  · rw [h, HX.out]; exact HA.out, hui.trans huk⟩
          · obtain rfl : i = Ls.length := by omega
            have HC3 : Hid (C = 0) := hid (by rw [HC2.out]; exact if_pos HY.out)
            go_wp2_with fail
            go_ret
            exact ⟨_, rfl, (hU.trans hu).trans hui, .inl ⟨HC3.out, rfl⟩⟩
def slC (N : Int) (l v : List Int) : Int := if ftC N l [v] = 0 then (if dfV N l = true then 0 else 30) else ftC N l [v]
theorem lv_one {w : World} {v : Value} {l : List Int} (h : Vw w v l) : Lv (w.alloc (.cells #[v] 22)) (.slice (some ⟨w.heap.size, 0, none⟩) 1 1) [l] :=
  ⟨_, _, rfl, fun i hi => by
    obtain rfl : i = 0 := by simp at hi; omega
    exact ⟨_, v, rfl, (Blk.new _ _ rfl).cell 0 rfl, h.up (Up.alloc _ _)⟩⟩
set_option maxHeartbeats 8000000 in
theorem solvable_any {v xv : Value} {N : Int} {l x : List Int} {w : World} (hm : Sm w v N l) (hx : Vw w xv x) (hI : In64 x) (hs : x.length ≤ 1000) :
    Calls Tryz.prog 61 #[v, xv] w fun r w' => ∃ u, r = .returned u ∧ Up w w' ∧ ErrsP solveB w' u (slC N l x) := by
  have HF := hid (fun w' (hu : Up w w') => fitting_any (hm.up (hu.trans (Up.alloc w' (.cells #[xv] 22)))) (lv_one (hx.up hu)) (fun i => by rcases i with _ | i; exact hI; exact fun j hj => absurd hj (Nat.not_lt_zero _)) (fun i => by rcases i with _ | i; exact hs; exact Nat.zero_le _) (by simp))
  have HD := hid (fun w' (hu : Up w w') => definite_any (hm.up hu))
  have HW30 := hid (fun w => swrong_any 30 (by decide) w)
  obtain ⟨s, rfl, ⟨p, cap, rfl, -, -⟩, -, -, -⟩ := hm
  obtain ⟨px, cx, rfl, -, -⟩ := hx
  obtain ⟨W0, hW0⟩ : ∃ W0, w.alloc (.cells #[.int .i64 N, .slice p l.length cap] 24) = W0 := ⟨_, rfl⟩
  have hB : Blk W0 w.heap.size 24 #[.int .i64 N, .slice p l.length cap] := by rw [← hW0]; exact Blk.new _ _ rfl
  have hU : Up w W0 := by rw [← hW0]; exact Up.alloc _ _
  have HFW := hid (HF.out W0 hU)
  have hBa := hB.up (Up.alloc W0 (.cells #[.slice px x.length cx] 22))
  have hUa := hU.trans (Up.alloc W0 (.cells #[.slice px x.length cx] 22))
  obtain ⟨F, hF⟩ : ∃ F, ftC N l [x] = F := ⟨_, rfl⟩
  have hCe : slC N l x = if F = 0 then (if dfV N l = true then 0 else 30) else F := by unfold slC; rw [hF]
  have HC := hid hCe
  rw [hF] at HFW
  obtain ⟨C, hC⟩ : ∃ C, slC N l x = C := ⟨_, rfl⟩
  rw [hC] at HC ⊢
  clear hF hCe hC HF hI hs
  go_enter Tryz.func61, Tryz.ntmps61
  go_upto_region 2 with (first
    | ((with_reducible apply ldM_P); exact rfl; exact rfl; exact hB; exact rfl)
    | (go_at_call 73; (with_reducible refine HFW.out.mono ?_); rintro r w1 ⟨u1, rfl, hu1, h1⟩; have hB1 := hBa.up hu1; have hU1 := hUa.trans hu1))
  rcases h1 with ⟨h0, rfl⟩ | ⟨h0, t, y, rfl, hE⟩
  · have hc := HC.out
    rw [if_pos h0] at hc
    cases hd : dfV N l with
    | true =>
      rw [hd, if_pos rfl] at hc
      rw [hd] at HD
      have HC2 := hid hc
      clear hc hd h0
      go_wp2_with (first
        | ((with_reducible apply ldM_P); exact rfl; exact rfl; exact hB1; exact rfl)
        | (go_at_call 14; (with_reducible refine (HD.out _ hU1).mono ?_); rintro r w2 ⟨rfl, hu2⟩))
      go_ret
      exact ⟨_, rfl, hU1.trans hu2, .inl ⟨HC2.out, rfl⟩⟩
    | false =>
      rw [hd, if_neg (by decide)] at hc
      rw [hd] at HD
      have HC2 := hid hc
      clear hc hd h0
      go_wp2_with (first
        | ((with_reducible apply ldM_P); exact rfl; exact rfl; exact hB1; exact rfl)
        | (go_at_call 14; (with_reducible refine (HD.out _ hU1).mono ?_); rintro r w2 ⟨rfl, hu2⟩)
        | (go_at_call 66; (with_reducible refine (HW30.out _).mono ?_); rintro r w3 ⟨u3, rfl, hu3, h3⟩))
      go_ret
      exact ⟨_, rfl, (hU1.trans hu2).trans hu3, by rw [HC2.out]; exact h3⟩
  · have HC2 : Hid (C = F) := hid (by rw [HC.out]; exact if_neg h0)
    have H0 := hid h0
    clear h0
    go_wp2_with fail
    go_ret
    exact ⟨_, rfl, hU1, by rw [HC2.out]; exact .inr ⟨H0.out, t, y, rfl, hE⟩⟩
end Go.Proofs.YtnpaodlhhcnbgaaGreatDoor
