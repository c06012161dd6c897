import Derived.Test.YtdpgpchcgmmklaaGreatDoorPe
import Derived.DataShut
import Derived.Deep.DeepCutAuto
import Derived.Test.YtdpgpchcgmmklaaGreatDoorRows
import Derived.Test.YtdpgpchcgmmklaaGreatDoorTie
import Derived.ChangeSame
import Derived.ChangeVars
import Derived.JoinedOf
import Derived.RowKit
import Derived.RowKitTokens
import Derived.LaidLaws
import Derived.LaidHandle
import Derived.Stop.Joined
import Derived.ChangeMaps5
import Derived.SevenTiedAt
namespace Go.Proofs.YtdpgpchcgmmklaaGreatDoor
open Go Go.RowKit
set_option maxRecDepth 100000
set_option linter.unusedSimpArgs false
section
variable {P : Program} {ops : Array Oper} {Q : Exit -> Act -> World -> Prop} {md : Region.Mode}
def relB2 (md : Region.Mode) (ops : Array Oper) (n s1 s2 x : Nat) : Bool :=
 ((List.range ops.size).all fun i => ((ops[i]?).map fun o => o.guard.isNone && (o.after.all fun e => !Region.binds md e || decide (e.on < i)) &&
   (if i = s1 \/ i = s2 then o.dst.isNone else ((o.dst.map fun d => decide (d < n)).getD false) && (List.range ops.size).all fun j => j == i || ((ops[j]?).map fun o' => o'.dst != o.dst).getD true)).getD false) &&
 ((List.range ops.size).all fun j => j == s1 || j == s2 || j == x || waitsU md ops j ops.size s1) && ((List.range ops.size).all fun j => j == s2 || waitsU md ops j ops.size s2) &&
 (decide (x < s1) && decide (s1 < s2) && decide (s2 < ops.size))
theorem relB2_op {n s1 s2 x : Nat} (h : relB2 md ops n s1 s2 x = true) {i : Nat} {o : Oper} (hi : ops[i]? = some o) :
   o.guard = none /\ (∀ e ∈ o.after, Region.binds md e = true -> e.on < i) /\ (i = s1 \/ i = s2 -> o.dst = none) /\
   (i ≠ s1 -> i ≠ s2 -> ∃ d, o.dst = some d /\ d < n /\ ∀ j o', ops[j]? = some o' -> j ≠ i -> o'.dst ≠ some d) := by
 unfold relB2 at h
 simp only [Bool.and_eq_true] at h
 have hlt : i < ops.size := (Array.getElem?_eq_some_iff.1 hi).1
 have h1 := List.all_eq_true.1 h.1.1.1 i (List.mem_range.2 hlt)
 rw [hi] at h1
 simp only [Option.map_some, Option.getD_some, Bool.and_eq_true] at h1
 obtain ⟨⟨h2, h3⟩, h4⟩ := h1
 refine ⟨Option.isNone_iff_eq_none.1 h2, fun e he hb => ?_, fun hs => ?_, fun hs hs' => ?_⟩
 ·have := Array.all_eq_true_iff_forall_mem.1 h3 e he
  simpa [hb] using this
 ·rw [if_pos hs] at h4
  exact Option.isNone_iff_eq_none.1 h4
 ·rw [if_neg (by omega), Bool.and_eq_true] at h4
  cases hd : o.dst with
  | none => rw [hd] at h4; simp at h4
  | some d =>
    rw [hd] at h4
    refine ⟨d, rfl, by simpa using h4.1, fun j o' hj hji => ?_⟩
    have h5 := List.all_eq_true.1 h4.2 j (List.mem_range.2 (Array.getElem?_eq_some_iff.1 hj).1)
    rw [hj] at h5
    simp only [Option.map_some, Option.getD_some, Bool.or_eq_true, beq_iff_eq, bne_iff_ne] at h5
    exact h5.resolve_left hji
theorem relB2_is {n s1 s2 x : Nat} (h : relB2 md ops n s1 s2 x = true) : x < s1 /\ s1 < s2 /\ s2 < ops.size := by
 unfold relB2 at h
 simp only [Bool.and_eq_true, decide_eq_true_eq] at h
 omega
theorem relB2_s1 {n s1 s2 x : Nat} (h : relB2 md ops n s1 s2 x = true) {j : Nat} (hj : j < ops.size) (h1 : j ≠ s1) (h2 : j ≠ s2) (h3 : j ≠ x) : waitsU md ops j ops.size s1 = true := by
 unfold relB2 at h
 simp only [Bool.and_eq_true] at h
 have := List.all_eq_true.1 h.1.1.2 j (List.mem_range.2 hj)
 simpa [h1, h2, h3] using this
theorem relB2_s2 {n s1 s2 x : Nat} (h : relB2 md ops n s1 s2 x = true) {j : Nat} (hj : j < ops.size) (h2 : j ≠ s2) : waitsU md ops j ops.size s2 = true := by
 unfold relB2 at h
 simp only [Bool.and_eq_true] at h
 have := List.all_eq_true.1 h.1.2 j (List.mem_range.2 hj)
 simpa [h2] using this
theorem ready2 {n s1 s2 x : Nat} (hB : relB2 md ops n s1 s2 x = true) {listed : Array Bool} (hs : listed.size = ops.size) : ∀ k, k < ops.size -> listed.getD k true = false -> ∃ i, i ∈ Region.ready md ops listed := by
 intro k
 induction k using Nat.strongRecOn with
 | _ k ih =>
   intro hk hl
   obtain ⟨o, ho⟩ : ∃ o, ops[k]? = some o := ⟨ops[k], Array.getElem?_eq_getElem hk⟩
   obtain ⟨_, h2, _⟩ := relB2_op hB ho
   by_cases hall : ∀ e ∈ o.after, Region.binds md e = true -> listed.getD e.on false = true
   ·exact ⟨k, mem_ready.2 ⟨hl, o, ho, hall⟩⟩
   ·obtain ⟨e, hne⟩ := Classical.not_forall.1 hall
    obtain ⟨he, hne⟩ := Classical.not_imp.1 hne
    obtain ⟨hb, hne⟩ := Classical.not_imp.1 hne
    have hlt := h2 e he hb
    refine ih e.on hlt (by omega) ?_
    have hsz : e.on < listed.size := by omega
    simp [hsz] at hne ⊢
    exact hne
theorem readyT {listed : Array Bool} (h : ∀ j, j < ops.size -> listed.getD j true = true) : Region.ready md ops listed = [] := by
 cases hrd : Region.ready md ops listed with
 | nil => rfl
 | cons k l =>
   obtain ⟨h1, ok, hok, _⟩ := mem_ready.1 (show k ∈ Region.ready md ops listed by rw [hrd]; exact List.mem_cons_self)
   rw [h k (Array.getElem?_eq_some_iff.1 hok).1] at h1
   cases h1
theorem wpAny_done {fuel : Nat} {listed : Array Bool} {a : Act} {w : World} (h : ∀ j, j < ops.size -> listed.getD j true = true) (hq : Q .normal a w) : wpAny P md ops Q fuel listed a w := by
 cases fuel with
 | zero => exact ⟨readyT h, hq⟩
 | succ f => exact ⟨fun _ => hq, by rw [readyT h]; intro j hj; cases hj⟩
theorem setT {listed : Array Bool} {i : Nat} (hl : listed.size = ops.size) (hi : i < ops.size) {p : Nat -> Prop} (h : ∀ j, j < ops.size -> j ≠ i -> ¬ p j -> listed.getD j true = true) : ∀ j, j < ops.size -> ¬ p j -> (listed.setIfInBounds i true).getD j true = true := fun j hj hp => by
 by_cases e : j = i
 ·subst e
  have h2 : j < listed.size := by omega
  simp [h2]
 ·rw [getD_set_ne true (Ne.symm e)]
  exact h j hj e hp
theorem wpAny_one {n s1 s2 x : Nat} (hB : relB2 md ops n s1 s2 x = true) {fuel : Nat} {listed : Array Bool} {a : Act} {w : World} {i : Nat} {o : Oper} (hl : listed.size = ops.size) (ho : ops[i]? = some o) (h : ∀ j, j < ops.size -> j ≠ i -> listed.getD j true = true) (hi : listed.getD i true = false)
   (hq : Oper.wp P o a w (Q .normal) Q) (hf : 1 <= fuel) : wpAny P md ops Q fuel listed a w := by
 cases fuel with
 | zero => omega
 | succ f =>
   have hlt : i < ops.size := (Array.getElem?_eq_some_iff.1 ho).1
   refine ⟨fun hr => ?_, fun k hk => ?_⟩
   ·obtain ⟨k, hk⟩ := ready2 hB hl i hlt hi
    rw [hr] at hk
    cases hk
   ·obtain ⟨h1, ok, hok, _⟩ := mem_ready.1 hk
    have hkl : k < ops.size := (Array.getElem?_eq_some_iff.1 hok).1
    have e : k = i := by
     by_cases e : k = i
     ·exact e
     ·rw [h k hkl e] at h1; cases h1
    subst e
    have hw : Region.wanted o (yielded ops a.tmps) = true := by simp [Region.wanted, (relB2_op hB ho).1]
    unfold wpOp
    simp only [ho, hw, if_true]
    exact .inl (Oper.wp_mono (fun a' w' hq => wpAny_done (fun j hj => setT (p := fun _ => False) hl hlt (fun j hj hji _ => h j hj hji) j hj id) hq) hq)
structure Twin (P : Program) (ops : Array Oper) (R : Nat -> Value -> World -> Prop) (s1 s2 x p1 p2 : Nat) (d1 d2 : Tmp) : Prop where
 dst : ∀ i o, ops[i]? = some o -> (i = p1 -> o.dst = some d1) /\ (i = p2 -> o.dst = some d2)
 lt : p1 < ops.size /\ p2 < ops.size /\ p1 ≠ p2 /\ p1 ≠ s1 /\ p1 ≠ s2 /\ p1 ≠ x /\ p2 ≠ s1 /\ p2 ≠ s2 /\ p2 ≠ x
 old : ∀ i v w, i = p1 \/ i = p2 -> R i v w -> ∃ b, v = .pointer (some ⟨b, 0, none⟩) /\ b < w.heap.size
 new : ∀ i o ev w, ops[i]? = some o -> i = p1 \/ i = p2 -> ∃ w', (execOp ev o).run P w = .ok (.value (.pointer (some ⟨w.heap.size, 0, none⟩))) w'
theorem wpAny_rel2 {n s1 s2 x p1 p2 : Nat} {d1 d2 : Tmp} {R : Nat -> Value -> World -> Prop} {S : World -> Prop} {a0 : Act} {w0 : World} (hn : a0.tmps.size = n) (hB : relB2 md ops n s1 s2 x = true)
   (hR : ∀ i v w w', R i v w -> Up w w' -> R i v w') (hS : ∀ w w', S w -> Up w w' -> S w') (hT : Twin P ops R s1 s2 x p1 p2 d1 d2)
   (hop : ∀ i o, ops[i]? = some o -> i ≠ s1 -> i ≠ s2 -> ∀ ev w, S w -> RelEv ops md R a0 o ev w -> LeavesR P (R i) w ((execOp ev o).run P w))
   (hfin : ∀ a w, a.tmps.size = a0.tmps.size -> a.defers = a0.defers -> (∀ s, (∀ o' ∈ ops, o'.dst ≠ some s) -> a.tmps[s]? = a0.tmps[s]?) -> (∀ i o d, ops[i]? = some o -> i ≠ s1 -> i ≠ s2 -> i ≠ x -> o.dst = some d -> R i (a.tmps.getD d undef) w) -> a.tmps.getD d1 undef ≠ a.tmps.getD d2 undef -> S w -> Up w0 w ->
    ∀ o1 o2 ox, ops[s1]? = some o1 -> ops[s2]? = some o2 -> ops[x]? = some ox ->
      ((∀ d, ox.dst = some d -> R x (a.tmps.getD d undef) w) -> Oper.wp P o1 a w (fun a1 w1 => Oper.wp P o2 a1 w1 (Q .normal) Q) Q) /\ Oper.wp P o1 a w (fun a1 w1 => Oper.wp P ox a1 w1 (fun a2 w2 => Oper.wp P o2 a2 w2 (Q .normal) Q) Q) Q) :
   ∀ (fuel : Nat) (listed : Array Bool) (a : Act) (w : World), leftU ops.size listed <= fuel -> closedU md ops listed -> listed.getD s1 true = false -> listed.getD s2 true = false -> RelInv ops R a0 listed a w -> (listed.getD p1 true = true -> listed.getD p2 true = true -> a.tmps.getD d1 undef ≠ a.tmps.getD d2 undef) -> S w -> Up w0 w -> wpAny P md ops Q fuel listed a w := by
 obtain ⟨tp1, tp2, tpp, t1a, t1b, t1c, t2a, t2b, t2c⟩ := hT.lt
 obtain ⟨hx1, h12, h2s⟩ := relB2_is hB
 obtain ⟨o1, ho1⟩ : ∃ o, ops[s1]? = some o := ⟨ops[s1], Array.getElem?_eq_getElem (by omega)⟩
 obtain ⟨o2, ho2⟩ : ∃ o, ops[s2]? = some o := ⟨ops[s2], Array.getElem?_eq_getElem (by omega)⟩
 obtain ⟨ox, hox⟩ : ∃ o, ops[x]? = some o := ⟨ops[x], Array.getElem?_eq_getElem (by omega)⟩
 intro fuel
 induction fuel with
 | zero =>
   intro listed a w hf hcl hs1 hs2 hI hJ hSw hu
   have := leftU_zero (listed := listed) (n := ops.size) (by omega) (j := s2) (by omega)
   rw [this] at hs2; cases hs2
 | succ fuel ih =>
   intro listed a w hf hcl hs1 hs2 hI hJ hSw hu
   refine ⟨fun hr => ?_, fun i hi => ?_⟩
   ·obtain ⟨k, hk⟩ := ready2 hB hI.lsize s2 (by omega) hs2
    rw [hr] at hk
    cases hk
   ·obtain ⟨hun, o, ho, hall⟩ := mem_ready.1 hi
    have hlt : i < ops.size := (Array.getElem?_eq_some_iff.1 ho).1
    obtain ⟨hg, _, hdn, hds⟩ := relB2_op hB ho
    have hw : Region.wanted o (yielded ops a.tmps) = true := by simp [Region.wanted, hg]
    have hwt : ∀ j, j < ops.size -> waitsU md ops j ops.size i = true -> listed.getD j true = true := fun j hj hwj => by
     have h1 := waitsU_spec hcl ops.size i o ho hall hwj
     have h2 : j < listed.size := by rw [hI.lsize]; exact hj
     simp [h2] at h1 ⊢
     exact h1
    have hdone : ∀ j oj d, ops[j]? = some oj -> listed.getD j true = true -> oj.dst = some d -> R j (a.tmps.getD d undef) w := fun j oj d hoj hl hd => by
     refine hI.done j oj d hoj ?_ hd
     have h2 : j < listed.size := by rw [hI.lsize]; exact (Array.getElem?_eq_some_iff.1 hoj).1
     simp [h2] at hl ⊢
     exact hl
    unfold wpOp
    simp only [ho, hw, if_true]
    refine .inl ?_
    by_cases hi2 : i = s2
    ·subst hi2
     have := hwt s1 (by omega) (relB2_s2 hB (by omega) (by omega))
     rw [this] at hs1; cases hs1
    ·by_cases hi1 : i = s1
     ·subst hi1
      rw [ho1] at ho
      obtain rfl := Option.some.inj ho
      have hz : ∀ j, j < ops.size -> j ≠ i -> j ≠ s2 -> j ≠ x -> listed.getD j true = true := fun j hj a1 a2 a3 => hwt j hj (relB2_s1 hB hj a1 a2 a3)
      have hF := hfin a w hI.size hI.defers hI.other (fun k ok d hok k1 k2 k3 hd => hdone k ok d hok (hz k (Array.getElem?_eq_some_iff.1 hok).1 k1 k2 k3) hd) (hJ (hz p1 tp1 t1a t1b t1c) (hz p2 tp2 t2a t2b t2c)) hSw hu o1 o2 ox ho1 ho2 hox
      have hlf := leftU_set (n := ops.size) (listed := listed) hlt hun
      have hl1 : (listed.setIfInBounds i true).size = ops.size := by simp [hI.lsize]
      have hs21 : (listed.setIfInBounds i true).getD s2 true = false := by rw [getD_set_ne true hi2]; exact hs2
      have hl2 := leftU_set (n := ops.size) (i := s2) (listed := listed.setIfInBounds i true) (by omega) hs21
      cases hlx : listed.getD x true with
      | true =>
        refine Oper.wp_mono (fun a1 w1 hq => ?_) (hF.1 fun d hd => hdone x ox d hox hlx hd)
        refine wpAny_one hB hl1 ho2 (fun j hj hne => setT (p := fun j => j = s2) hI.lsize hlt (fun j hj a1 a2 => ?_) j hj hne) hs21 hq (by omega)
        by_cases e : j = x
        ·rw [e]; exact hlx
        ·exact hz j hj a1 a2 e
      | false =>
        refine Oper.wp_mono (fun a1 w1 hq => ?_) hF.2
        have hsx : (listed.setIfInBounds i true).getD x true = false := by rw [getD_set_ne true (by omega)]; exact hlx
        obtain ⟨f, rfl⟩ : ∃ f, fuel = f + 1 := ⟨fuel - 1, by omega⟩
        have hcl1 := closedU_set hcl hi
        refine ⟨fun hr => ?_, fun k hk => ?_⟩
        ·obtain ⟨k, hk⟩ := ready2 hB hl1 s2 (by omega) hs21
         rw [hr] at hk
         cases hk
        ·obtain ⟨hkn, ok, hok, hallk⟩ := mem_ready.1 hk
         have hkl : k < ops.size := (Array.getElem?_eq_some_iff.1 hok).1
         have hk2 : k ≠ s2 := by
          rintro rfl
          have h1 := waitsU_spec hcl1 ops.size k ok hok hallk (relB2_s2 hB (j := x) (by omega) (by omega))
          rw [getD_set_ne false (show i ≠ x by omega)] at h1
          have h2 : x < listed.size := by rw [hI.lsize]; omega
          simp [h2] at h1 hlx
          rw [h1] at hlx; cases hlx
         have hki : k ≠ i := by
          rintro rfl
          have h2 : k < listed.size := by rw [hI.lsize]; exact hkl
          simp [h2] at hkn
         have hkx : k = x := by
          by_cases e : k = x
          ·exact e
          ·rw [getD_set_ne true (Ne.symm hki), hz k hkl hki hk2 e] at hkn; cases hkn
         subst hkx
         rw [hox] at hok
         obtain rfl := Option.some.inj hok
         have hwx : Region.wanted ox (yielded ops a1.tmps) = true := by simp [Region.wanted, (relB2_op hB hox).1]
         unfold wpOp
         simp only [hox, hwx, if_true]
         refine .inl (Oper.wp_mono (fun a2 w2 hq2 => ?_) hq)
         have hl3 := leftU_set (n := ops.size) (i := k) (listed := listed.setIfInBounds i true) (by omega) hsx
         have hs22 : ((listed.setIfInBounds i true).setIfInBounds k true).getD s2 true = false := by rw [getD_set_ne true hk2]; exact hs21
         have hl4 := leftU_set (n := ops.size) (i := s2) (listed := (listed.setIfInBounds i true).setIfInBounds k true) (by omega) hs22
         refine wpAny_one hB (by simp [hI.lsize]) ho2 (fun j hj hne => setT (p := fun j => j = s2) hl1 hkl (fun j hj a1 a2 => ?_) j hj hne) hs22 hq2 (by omega)
         exact setT (p := fun j => j = s2 \/ j = k) hI.lsize hlt (fun j hj b1 b2 => hz j hj b1 (fun e => b2 (.inl e)) (fun e => b2 (.inr e))) j hj (fun e => e.elim a2 a1)
     ·obtain ⟨d, hd, hdl, hdd⟩ := hds hi1 hi2
      have hev : RelEv ops md R a0 o a.eval w := by
       refine ⟨fun _ => rfl, fun _ => rfl, fun _ => rfl, fun s hs => ?_, fun j o' d' hj he hd' => ?_⟩
       ·show a.tmps.getD s undef = a0.tmps.getD s undef
        rw [Array.getD_eq_getD_getElem?, Array.getD_eq_getD_getElem?, hI.other s hs]
       ·obtain ⟨e, he, hb, rfl⟩ := he
        exact hI.done e.on o' d' hj (hall e he hb) hd'
      have h1 := hop i o ho hi1 hi2 a.eval w hSw hev
      have hne : ∀ v q c, q < ops.size -> q ≠ i -> (∀ oq, ops[q]? = some oq -> oq.dst = some c) -> (a.put o.dst v).tmps.getD c undef = a.tmps.getD c undef := fun v q c hq hqi hc => by
       have hne : d ≠ c := fun e => hdd q _ (Array.getElem?_eq_getElem hq) hqi (by rw [hc _ (Array.getElem?_eq_getElem hq), e])
       rw [hd, Array.getD_eq_getD_getElem?, Array.getD_eq_getD_getElem?]
       simp [Act.put, hne]
      have hown : ∀ v, (a.put o.dst v).tmps.getD d undef = v := fun v => by
       have hds : d < a.tmps.size := by rw [hI.size, hn]; exact hdl
       rw [hd]
       simp [Act.put, hds]
      have hnext : ∀ v w', R i v w' -> Up w w' -> (i = p1 \/ i = p2 -> v = .pointer (some ⟨w.heap.size, 0, none⟩)) -> wpAny P md ops Q fuel (listed.setIfInBounds i true) (a.put o.dst v) w' := by
       intro v w' hv hu' hvp
       refine ih _ _ _ ?_ (closedU_set hcl hi) ?_ ?_ ?_ ?_ (hS _ _ hSw hu') (hu.trans hu')
       ·have := leftU_set (n := ops.size) hlt hun; omega
       ·rw [getD_set_ne true hi1]; exact hs1
       ·rw [getD_set_ne true hi2]; exact hs2
       ·refine ⟨by rw [hd]; exact hI.defers, by rw [hd]; simp [Act.put, hI.size], by simp [hI.lsize], fun s hs => ?_, fun j o' d' hj hl hd' => ?_⟩
        ·have hne : d ≠ s := by
          rintro rfl
          obtain ⟨hx, hy⟩ := Array.getElem?_eq_some_iff.1 ho
          exact hs o (by rw [<- hy]; exact Array.getElem_mem hx) hd
         rw [<- hI.other s hs, hd]
         simp [Act.put, hne]
        ·by_cases hji : j = i
         ·subst hji
          rw [ho] at hj
          obtain rfl := Option.some.inj hj
          rw [hd] at hd'
          obtain rfl := Option.some.inj hd'
          rw [hown]
          exact hv
         ·rw [getD_set_ne false (Ne.symm hji)] at hl
          rw [hne v j d' (Array.getElem?_eq_some_iff.1 hj).1 hji fun oq hoq => by rw [hj] at hoq; obtain rfl := Option.some.inj hoq; exact hd']
          exact hR j _ _ _ (hI.done j o' d' hj hl hd') hu'
       ·intro l1 l2
        have hold : ∀ q c, q = p1 \/ q = p2 -> q ≠ i -> (∀ oq, ops[q]? = some oq -> oq.dst = some c) -> listed.getD q true = true -> ∃ b, (a.put o.dst v).tmps.getD c undef = .pointer (some ⟨b, 0, none⟩) /\ b < w.heap.size := fun q c hq hqi hc hlq => by
         have hqs : q < ops.size := by rcases hq with rfl | rfl <;> assumption
         rw [hne v q c hqs hqi hc]
         exact hT.old q _ _ hq (hdone q _ c (Array.getElem?_eq_getElem hqs) hlq (hc _ (Array.getElem?_eq_getElem hqs)))
        by_cases e1 : i = p1
        ·subst e1
         rw [getD_set_ne true tpp] at l2
         obtain ⟨b, hb, hlb⟩ := hold p2 d2 (.inr rfl) (Ne.symm tpp) (fun oq hoq => (hT.dst p2 oq hoq).2 rfl) l2
         have hdd1 := (hT.dst i o ho).1 rfl
         rw [hd] at hdd1
         obtain rfl := Option.some.inj hdd1
         rw [hb, hown, hvp (.inl rfl)]
         intro e
         injection e with e; injection e with e; injection e with e
         omega
        ·by_cases e2 : i = p2
         ·subst e2
          rw [getD_set_ne true (Ne.symm tpp)] at l1
          obtain ⟨b, hb, hlb⟩ := hold p1 d1 (.inl rfl) tpp (fun oq hoq => (hT.dst p1 oq hoq).1 rfl) l1
          have hdd2 := (hT.dst i o ho).2 rfl
          rw [hd] at hdd2
          obtain rfl := Option.some.inj hdd2
          rw [hb, hown, hvp (.inr rfl)]
          intro e
          injection e with e; injection e with e; injection e with e
          omega
         ·rw [getD_set_ne true e1] at l1
          rw [getD_set_ne true e2] at l2
          rw [hne v p1 d1 tp1 (Ne.symm e1) fun oq hoq => (hT.dst p1 oq hoq).1 rfl, hne v p2 d2 tp2 (Ne.symm e2) fun oq hoq => (hT.dst p2 oq hoq).2 rfl]
          exact hJ l1 l2
      have hnw : i = p1 \/ i = p2 -> ∃ w', (execOp a.eval o).run P w = .ok (.value (.pointer (some ⟨w.heap.size, 0, none⟩))) w' := fun e => hT.new i o a.eval w ho e
      unfold Oper.wp
      generalize (execOp a.eval o).run P w = r at *
      cases r with
      | halt x w' => exact h1.elim
      | ok nx w' =>
        cases nx with
        | value u => exact hnext u w' h1.1 h1.2 fun e => by obtain ⟨w2, h⟩ := hnw e; injection h with h; injection h
        | enter f args =>
          obtain ⟨hu', hc⟩ := h1
          refine Calls.mono hc fun e w'' he => ?_
          obtain ⟨hu2, v, rfl, hv⟩ := he
          exact hnext v w'' hv (hu'.trans hu2) fun e => by obtain ⟨w2, h⟩ := hnw e; injection h with h; cases h
        | _ => exact h1.elim
theorem wp_region_sp2 {id : Nat} {a0 : Act} {w0 : World} {n : Nat} (s1 s2 x p1 p2 : Nat) (d1 d2 : Tmp) (ds : List Tmp) (L : List SP) (S : World -> Prop) (hm : P.follows .mixedOrders = true) (hn : a0.tmps.size = n) (hB : relB2 .any ops n s1 s2 x = true)
   (hds : dsB ops ds = true) (hS : ∀ w w', S w -> Up w w' -> S w') (h0 : S w0) (hT : Twin P ops (nthR L) s1 s2 x p1 p2 d1 d2)
   (hop : ∀ ev w, S w -> ∀ i o, i ≠ s1 -> i ≠ s2 -> ops[i]? = some o -> EvR ops L a0 i ev w -> LeavesR P (nthR L i) w ((execOp ev o).run P w))
   (hfin : ∀ (g : Tmp -> Value) w, (∀ i d, i ≠ s1 -> i ≠ s2 -> i ≠ x -> dstB ops i d = true -> nthR L i (g d) w) -> g d1 ≠ g d2 -> S w -> Up w0 w ->
    ∀ o1 o2 ox, ops[s1]? = some o1 -> ops[s2]? = some o2 -> ops[x]? = some ox ->
      ((∀ d, ox.dst = some d -> nthR L x (g d) w) -> Oper.wp P o1 (putL a0 (ds.map fun d => (d, g d))) w (fun a1 w1 => Oper.wp P o2 a1 w1 (Q .normal) Q) Q) /\
      Oper.wp P o1 (putL a0 (ds.map fun d => (d, g d))) w (fun a1 w1 => Oper.wp P ox a1 w1 (fun a2 w2 => Oper.wp P o2 a2 w2 (Q .normal) Q) Q) Q) :
   (Code.region id ops true).wp P Q a0 w0 := by
 refine wp_region_any hm (wpAny_rel2 (R := nthR L) (S := S) hn hB (fun i v w w' h hu => (L.getD i SP.any).up v w w' h hu) hS hT (fun i o hi h1 h2 ev w hSw hev => ?_) (fun a w hs hd ho hr hJ hSw hu => ?_) _ _ _ _ ?_ ?_ ?_ ?_ ?_ ?_ (hS _ _ h0 (Up.drew w0)) (Up.drew w0))
 ·refine hop ev w hSw i o h1 h2 hi ⟨hev.const, hev.func, hev.global, fun s hs => hev.other s fun o' ho' => ?_, fun j d hj => ?_⟩
  ·have := Array.all_eq_true_iff_forall_mem.1 hs o' ho'
   simpa using this
  ·unfold depB at hj
   rw [hi] at hj
   cases hoj : ops[j]? with
   | none => rw [hoj] at hj; cases hj
   | some o' =>
     rw [hoj] at hj
     simp only [Bool.and_eq_true, Array.any_eq_true', beq_iff_eq] at hj
     obtain ⟨⟨e, he, hb, hon⟩, hd⟩ := hj
     exact hev.dep j o' d hoj ⟨e, he, hb, hon⟩ hd
 ·have e := putL_eq (ds := ds) hs hd (fun s hs' => ho s fun o' hm he => hs' (by
   have := Array.all_eq_true_iff_forall_mem.1 hds o' hm
   simpa [he] using this))
  have h := hfin (fun d => a.tmps.getD d undef) w (fun i d h1 h2 h3 hd => by
   unfold dstB at hd
   cases ho : ops[i]? with
   | none => rw [ho] at hd; cases hd
   | some o' =>
     rw [ho] at hd
     exact hr i o' d ho h1 h2 h3 (by simpa using hd)) hJ hSw hu
  rw [<- e] at h
  exact h
 ·unfold leftU; exact Nat.le_trans (List.length_filter_le _ _) (by simp)
 ·intro j oj hj hl
  have : j < ops.size := (Array.getElem?_eq_some_iff.1 hj).1
  simp [this] at hl
 ·have := relB2_is hB
  have h : s1 < ops.size := by omega
  simp [h]
 ·have := relB2_is hB
  have h : s2 < ops.size := by omega
  simp [h]
 ·refine ⟨rfl, rfl, by simp, fun _ _ => rfl, fun i o d ho hl _ => ?_⟩
  have : i < ops.size := (Array.getElem?_eq_some_iff.1 ho).1
  simp [this] at hl
 ·intro h1 _
  have := hT.lt.1
  simp [this] at h1
end
theorem blkM_cell {w : World} {g i : Nat} {C : Array Value} {v : Value} (hB : Blk w g 61 C) (h : C[i]? = some v) : w.cell? ⟨g, i, none⟩ = some v := hB.cell i h
theorem wp_val {P : Program} {o : Oper} {a : Act} {w : World} {v : Value} {K : Act -> World -> Prop} {Q : Exit -> Act -> World -> Prop} (h : (execOp a.eval o).run P w = .ok (.value v) w) (hK : K (a.put o.dst v) w) : Oper.wp P o a w K Q := by
 unfold Oper.wp
 rw [h]
 exact hK
set_option maxHeartbeats 16000000 in
theorem rstep_any {w : World} {base n m k i j B : Nat} {av pv : Value} {G : Nat -> Nat} {V : Nat -> Nat -> Int} {q : Int} (h : OwnM w base av n m G V) (hp : Big w pv q) (hk : k < n) (hi : i < n) (hkm : k < m) (hj : j < m) (hn : n <= 8) (_ : m <= 9) (hB : B <= 100)
   (hq : q ≠ 0) (bq : q.natAbs < bp B) (b1 : (V k k).natAbs < bp B) (b2 : (V i j).natAbs < bp B) (b3 : (V i k).natAbs < bp B) (b4 : (V k j).natAbs < bp B) :
   Calls Tryz.prog 70 #[av, .int .i64 (k : Nat), .int .i64 (i : Nat), .int .i64 (j : Nat), pv] w fun r w' => Up w w' /\ ∃ v, r = .returned v /\ Big w' v ((V k k * V i j - V i k * V k j).tdiv q) := by
 obtain ⟨g, cap, C, rfl, -, -, hBg, hE⟩ := h.open (by omega)
 obtain ⟨ck, hCk⟩ := hE k hk
 obtain ⟨ci, hCi⟩ := hE i hi
 obtain ⟨Ck, bkk, akk, nkk, ckk, hBk, hsk, h1, h2, hkk⟩ := h.entry hk hkm
 obtain ⟨Ck', bkj, akj, nkj, ckj, hBk', -, h3, h4, hkj⟩ := h.entry hk hj
 obtain ⟨Ci, bij, aij, nij, cij, hBi, -, h5, h6, hij⟩ := h.entry hi hj
 obtain ⟨Ci', bik, aik, nik, cik, hBi', -, h7, h8, hik⟩ := h.entry hi hkm
 have e1 : Ck' = Ck := by unfold Blk at hBk hBk'; rw [hBk] at hBk'; simp at hBk'; exact hBk'.symm
 have e2 : Ci' = Ci := by unfold Blk at hBi hBi'; rw [hBi] at hBi'; simp at hBi'; exact hBi'.symm
 subst e1 e2
 obtain ⟨pb, pa, pn, pc, rfl⟩ := hp.shape
 have HCk := hid (fun w' (hB : Blk w' g 61 C) => blkM_cell hB hCk)
 have HCi := hid (fun w' (hB : Blk w' g 61 C) => blkM_cell hB hCi)
 have Hkk := hid (fun w' (hB : Blk w' (G k) 59 Ck') => bigAt_range hB h1 h2)
 have Hkj := hid (fun w' (hB : Blk w' (G k) 59 Ck') => bigAt_range hB h3 h4)
 have Hij := hid (fun w' (hB : Blk w' (G i) 59 Ci') => bigAt_range hB h5 h6)
 have Hik := hid (fun w' (hB : Blk w' (G i) 59 Ci') => bigAt_range hB h7 h8)
 have p1 : (V k k * V i j).natAbs < bp (B + B) := by rw [Int.natAbs_mul, bp_add]; exact Nat.mul_lt_mul_of_lt_of_lt b1 b2
 have p2 : (V i k * V k j).natAbs < bp (B + B) := by rw [Int.natAbs_mul, bp_add]; exact Nat.mul_lt_mul_of_lt_of_lt b3 b4
 have p3 : (V k k * V i j - V i k * V k j).natAbs < bp (B + B + 1) := by have e : bp (B + B + 1) = bp (B + B) * 18446744073709551616 := bp_succ (B + B); omega
 have HM1 := hid (fun (va vb : Value) (w : World) (ha : Big w va (V k k)) (hb : Big w vb (V i j)) => mul_big ha hb (nl_bp (k := B) (by omega) b1) (nl_bp (k := B) (by omega) b2))
 have HM2 := hid (fun (va vb : Value) (w : World) (ha : Big w va (V i k)) (hb : Big w vb (V k j)) => mul_big ha hb (nl_bp (k := B) (by omega) b3) (nl_bp (k := B) (by omega) b4))
 have HS := hid (fun (va vb : Value) (w : World) (ha : Big w va (V k k * V i j)) (hb : Big w vb (V i k * V k j)) => sub_big ha hb (nl_bp (k := B + B) (by omega) p1) (nl_bp (k := B + B) (by omega) p2))
 have HD := hid (fun (va vb : Value) (w : World) (ha : Big w va (V k k * V i j - V i k * V k j)) (hb : Big w vb q) => div_big2 ha hb (nl_bp (k := B + B + 1) (by omega) p3) (nl_bp (k := B) (by omega) bq) (by omega))
 obtain ⟨z1, hz1⟩ : ∃ z, V k k = z := ⟨_, rfl⟩
 obtain ⟨z2, hz2⟩ : ∃ z, V i j = z := ⟨_, rfl⟩
 obtain ⟨z3, hz3⟩ : ∃ z, V i k = z := ⟨_, rfl⟩
 obtain ⟨z4, hz4⟩ : ∃ z, V k j = z := ⟨_, rfl⟩
 rw [hz1] at hkk
 rw [hz2] at hij
 rw [hz3] at hik
 rw [hz4] at hkj
 rw [hz1, hz2] at HM1
 rw [hz3, hz4] at HM2
 rw [hz1, hz2, hz3, hz4] at HS HD ⊢
 clear hz1 hz2 hz3 hz4 h1 h2 h3 h4 h5 h6 h7 h8 b1 b2 b3 b4 p1 p2 p3 hBk' hBi' hCk hCi hE bq hsk hB
 obtain ⟨y1, hy1⟩ : ∃ z, z1 * z2 = z := ⟨_, rfl⟩
 rw [hy1] at HM1 HS HD ⊢
 obtain ⟨y2, hy2⟩ : ∃ z, z3 * z4 = z := ⟨_, rfl⟩
 rw [hy2] at HM2 HS HD ⊢
 obtain ⟨y3, hy3⟩ : ∃ z, y1 - y2 = z := ⟨_, rfl⟩
 rw [hy3] at HS HD ⊢
 obtain ⟨y4, hy4⟩ : ∃ z, y3.tdiv q = z := ⟨_, rfl⟩
 rw [hy4] at HD ⊢
 clear hy1 hy2 hy3 hy4 h
 obtain ⟨W0, hW0⟩ : ∃ W0, w.alloc (.cells #[.bool pb, .slice pa pn pc] 59) = W0 := ⟨_, rfl⟩
 have hBp : Blk W0 w.heap.size 59 #[.bool pb, .slice pa pn pc] := by rw [<- hW0]; exact Blk.new _ _ rfl
 have hU : Up w W0 := by rw [<- hW0]; exact Up.alloc _ _
 have hsW : W0.heap.size = w.heap.size + 1 := by rw [<- hW0]; simp
 obtain ⟨W1, hW1⟩ : ∃ W1, W0.alloc (.cells #[.bool false, .slice none 0 0] 59) = W1 := ⟨_, rfl⟩
 have hBr : Blk W1 (w.heap.size + 1) 59 #[.bool false, .slice none 0 0] := by rw [<- hW1]; exact Blk.new _ _ hsW.symm
 have hU1 : Up W0 W1 := by rw [<- hW1]; exact Up.alloc _ _
 have hUw : Up w W1 := hU.trans hU1
 have hBq := hBp.up hU1
 go_enter Tryz.func70, Tryz.ntmps70
 go_upto_region 1 with fail
 clear hW0 hW1 hU hU1 hBp
 refine wp_region_sp2 (n := 50) 38 39 35 36 37 11 12 [14, 15, 16, 17, 18, 19, 20, 21, 22, 23, 24, 25, 26, 27, 28, 29, 30, 31, 32, 33, 34, 35, 36, 37, 38, 39, 40, 41, 42, 43, 44, 45, 46, 13, 47, 48, 11, 12] [SP.is (.slice (some ⟨g, 0, none⟩) n cap), SP.is (.int .i64 (k : Nat)), SP.is (.pointer (some ⟨g, k, none⟩)), SP.is (.slice (some ⟨G k, 0, none⟩) m ck), SP.is (.int .i64 (k : Nat)), SP.is (.pointer (some ⟨G k, k * 2, none⟩)), SP.is (.agg #[.bool bkk, .slice akk nkk ckk]), SP.is (.slice (some ⟨g, 0, none⟩) n cap), SP.is (.int .i64 (i : Nat)), SP.is (.pointer (some ⟨g, i, none⟩)), SP.is (.slice (some ⟨G i, 0, none⟩) m ci), SP.is (.int .i64 (j : Nat)), SP.is (.pointer (some ⟨G i, j * 2, none⟩)), SP.is (.agg #[.bool bij, .slice aij nij cij]), SP.of (fun v w1 => Big w1 v y1) (fun _ _ _ h hu => h.up hu), SP.is (.slice (some ⟨g, 0, none⟩) n cap), SP.is (.int .i64 (i : Nat)), SP.is (.pointer (some ⟨g, i, none⟩)), SP.is (.slice (some ⟨G i, 0, none⟩) m ci), SP.is (.int .i64 (k : Nat)), SP.is (.pointer (some ⟨G i, k * 2, none⟩)), SP.is (.agg #[.bool bik, .slice aik nik cik]), SP.is (.slice (some ⟨g, 0, none⟩) n cap), SP.is (.int .i64 (k : Nat)), SP.is (.pointer (some ⟨g, k, none⟩)), SP.is (.slice (some ⟨G k, 0, none⟩) m ck), SP.is (.int .i64 (j : Nat)), SP.is (.pointer (some ⟨G k, j * 2, none⟩)), SP.is (.agg #[.bool bkj, .slice akj nkj ckj]), SP.of (fun v w1 => Big w1 v y2) (fun _ _ _ h hu => h.up hu), SP.of (fun v w1 => Big w1 v y3) (fun _ _ _ h hu => h.up hu), SP.is (.agg #[.bool pb, .slice pa pn pc]), SP.of (fun v w1 => ∃ b1 a1 n1 c1 b2 a2 n2 c2, v = .tuple #[.agg #[.bool b1, .slice a1 n1 c1], .agg #[.bool b2, .slice a2 n2 c2]] /\ Big w1 (.agg #[.bool b1, .slice a1 n1 c1]) y4) (fun _ _ _ h hu => (by obtain ⟨b1, a1, n1, c1, b2, a2, n2, c2, h1, h2⟩ := h; exact ⟨b1, a1, n1, c1, b2, a2, n2, c2, h1, h2.up hu⟩)), SP.of (fun v w1 => ∃ b1 a1 n1 c1 b2 a2 n2 c2, v = .tuple #[.agg #[.bool b1, .slice a1 n1 c1], .agg #[.bool b2, .slice a2 n2 c2]] /\ Big w1 (.agg #[.bool b1, .slice a1 n1 c1]) y4) (fun _ _ _ h hu => (by obtain ⟨b1, a1, n1, c1, b2, a2, n2, c2, h1, h2⟩ := h; exact ⟨b1, a1, n1, c1, b2, a2, n2, c2, h1, h2.up hu⟩)), SP.of (fun v w1 => Big w1 v y4) (fun _ _ _ h hu => h.up hu), SP.of (fun v _ => ∃ b1 a1 n1 c1, v = .agg #[.bool b1, .slice a1 n1 c1]) (fun _ _ _ h hu => h), SP.of (fun v w1 => ∃ b, v = .pointer (some ⟨b, 0, none⟩) /\ W1.heap.size <= b /\ Blk w1 b 59 #[.bool false, .slice none 0 0]) (fun _ _ _ h hu => h.imp fun _ k => ⟨k.1, k.2.1, k.2.2.up hu⟩), SP.of (fun v w1 => ∃ b, v = .pointer (some ⟨b, 0, none⟩) /\ W1.heap.size <= b /\ Blk w1 b 59 #[.bool false, .slice none 0 0]) (fun _ _ _ h hu => h.imp fun _ k => ⟨k.1, k.2.1, k.2.2.up hu⟩), SP.any, SP.any] (fun wq => Blk wq w.heap.size 59 #[.bool pb, .slice pa pn pc] /\ Up w wq /\ Up W1 wq /\ Below w.heap.size w wq) (by kernel_rfl) (by rfl) (by kernel_rfl) (by kernel_rfl) (fun _ _ h hu => ⟨(h.1).up hu, (h.2.1).trans hu, (h.2.2.1).trans hu, below_up (h.2.2.2) hu⟩) ⟨(by first | assumption | exact gBlk), (by first | exact Up.refl _ | assumption), (by first | exact Up.refl _ | assumption), gUp⟩ ⟨fun i o hi => ⟨by rintro rfl; obtain rfl := oI hi; rfl, by rintro rfl; obtain rfl := oI hi; rfl⟩, (by decide), (fun i v w hi h => by rcases hi with rfl | rfl <;> (obtain ⟨b, rfl, _, h2⟩ := h; exact ⟨b, rfl, h2.lt⟩)), (fun i o ev w hi hk => by rcases hk with rfl | rfl <;> (obtain rfl := oI hi; exact ⟨w.alloc (.cells #[.bool false, .slice none 0 0] 59), by go_simp⟩))⟩ (fun ev w9 hS9 i o hne1 hne2 hi hev => ?_) (fun gR wE hq hJ hSE huE o1 o2 ox ho1 ho2 hox => ?_)
 ·have ⟨hS1, hS2, hS3, hSB⟩ := hS9
  have hcC := hev.const
  have hcF := hev.func
  have hcG := hev.global
  rcases i with _ | _ | _ | _ | _ | _ | _ | _ | _ | _ | _ | _ | _ | _ | _ | _ | _ | _ | _ | _ | _ | _ | _ | _ | _ | _ | _ | _ | _ | _ | _ | _ | _ | _ | _ | _ | _ | _ | _ | _ | i
  ·obtain rfl := oI hi
   have e0 := hev.other 0 (by kernel_rfl)
   simp [Act.eval] at e0
   exact lV (.slice (some ⟨g, 0, none⟩) n cap)
  ·obtain rfl := oI hi
   have e1 := hev.other 1 (by kernel_rfl)
   simp [Act.eval] at e1
   exact lV (.int .i64 (k : Nat))
  ·obtain rfl := oI hi
   have e14 : ev (.tmp 14) = (.slice (some ⟨g, 0, none⟩) n cap) := hev.dep 0 14 (by kernel_rfl)
   have e15 : ev (.tmp 15) = (.int .i64 (k : Nat)) := hev.dep 1 15 (by kernel_rfl)
   exact lV (.pointer (some ⟨g, k, none⟩))
  ·obtain rfl := oI hi
   have e16 : ev (.tmp 16) = (.pointer (some ⟨g, k, none⟩)) := hev.dep 2 16 (by kernel_rfl)
   have hcx := HCk.out w9 (hBg.up hS2); exact leavesR_value (u := .slice (some ⟨G k, 0, none⟩) m ck) (by go_simp) rfl
  ·obtain rfl := oI hi
   have e1 := hev.other 1 (by kernel_rfl)
   simp [Act.eval] at e1
   exact lV (.int .i64 (k : Nat))
  ·obtain rfl := oI hi
   have e17 : ev (.tmp 17) = (.slice (some ⟨G k, 0, none⟩) m ck) := hev.dep 3 17 (by kernel_rfl)
   have e18 : ev (.tmp 18) = (.int .i64 (k : Nat)) := hev.dep 4 18 (by kernel_rfl)
   exact lV (.pointer (some ⟨G k, k * 2, none⟩))
  ·obtain rfl := oI hi
   have e19 : ev (.tmp 19) = (.pointer (some ⟨G k, k * 2, none⟩)) := hev.dep 5 19 (by kernel_rfl)
   exact leavesR_value (run_ldB2 rfl e19 (Hkk.out _ (hBk.up hS2))) rfl
  ·obtain rfl := oI hi
   have e0 := hev.other 0 (by kernel_rfl)
   simp [Act.eval] at e0
   exact lV (.slice (some ⟨g, 0, none⟩) n cap)
  ·obtain rfl := oI hi
   have e2 := hev.other 2 (by kernel_rfl)
   simp [Act.eval] at e2
   exact lV (.int .i64 (i : Nat))
  ·obtain rfl := oI hi
   have e21 : ev (.tmp 21) = (.slice (some ⟨g, 0, none⟩) n cap) := hev.dep 7 21 (by kernel_rfl)
   have e22 : ev (.tmp 22) = (.int .i64 (i : Nat)) := hev.dep 8 22 (by kernel_rfl)
   exact lV (.pointer (some ⟨g, i, none⟩))
  ·obtain rfl := oI hi
   have e23 : ev (.tmp 23) = (.pointer (some ⟨g, i, none⟩)) := hev.dep 9 23 (by kernel_rfl)
   have hcx := HCi.out w9 (hBg.up hS2); exact leavesR_value (u := .slice (some ⟨G i, 0, none⟩) m ci) (by go_simp) rfl
  ·obtain rfl := oI hi
   have e3 := hev.other 3 (by kernel_rfl)
   simp [Act.eval] at e3
   exact lV (.int .i64 (j : Nat))
  ·obtain rfl := oI hi
   have e24 : ev (.tmp 24) = (.slice (some ⟨G i, 0, none⟩) m ci) := hev.dep 10 24 (by kernel_rfl)
   have e25 : ev (.tmp 25) = (.int .i64 (j : Nat)) := hev.dep 11 25 (by kernel_rfl)
   exact lV (.pointer (some ⟨G i, j * 2, none⟩))
  ·obtain rfl := oI hi
   have e26 : ev (.tmp 26) = (.pointer (some ⟨G i, j * 2, none⟩)) := hev.dep 12 26 (by kernel_rfl)
   exact leavesR_value (run_ldB2 rfl e26 (Hij.out _ (hBi.up hS2))) rfl
  ·obtain rfl := oI hi
   have e20 : ev (.tmp 20) = (.agg #[.bool bkk, .slice akk nkk ckk]) := hev.dep 6 20 (by kernel_rfl)
   have e27 : ev (.tmp 27) = (.agg #[.bool bij, .slice aij nij cij]) := hev.dep 13 27 (by kernel_rfl)
   refine leavesR_call ?_ (HM1.out _ _ _ (e20 ▸ hkk.up hS2) (e27 ▸ hij.up hS2))
   go_simp
  ·obtain rfl := oI hi
   have e0 := hev.other 0 (by kernel_rfl)
   simp [Act.eval] at e0
   exact lV (.slice (some ⟨g, 0, none⟩) n cap)
  ·obtain rfl := oI hi
   have e2 := hev.other 2 (by kernel_rfl)
   simp [Act.eval] at e2
   exact lV (.int .i64 (i : Nat))
  ·obtain rfl := oI hi
   have e29 : ev (.tmp 29) = (.slice (some ⟨g, 0, none⟩) n cap) := hev.dep 15 29 (by kernel_rfl)
   have e30 : ev (.tmp 30) = (.int .i64 (i : Nat)) := hev.dep 16 30 (by kernel_rfl)
   exact lV (.pointer (some ⟨g, i, none⟩))
  ·obtain rfl := oI hi
   have e31 : ev (.tmp 31) = (.pointer (some ⟨g, i, none⟩)) := hev.dep 17 31 (by kernel_rfl)
   have hcx := HCi.out w9 (hBg.up hS2); exact leavesR_value (u := .slice (some ⟨G i, 0, none⟩) m ci) (by go_simp) rfl
  ·obtain rfl := oI hi
   have e1 := hev.other 1 (by kernel_rfl)
   simp [Act.eval] at e1
   exact lV (.int .i64 (k : Nat))
  ·obtain rfl := oI hi
   have e32 : ev (.tmp 32) = (.slice (some ⟨G i, 0, none⟩) m ci) := hev.dep 18 32 (by kernel_rfl)
   have e33 : ev (.tmp 33) = (.int .i64 (k : Nat)) := hev.dep 19 33 (by kernel_rfl)
   exact lV (.pointer (some ⟨G i, k * 2, none⟩))
  ·obtain rfl := oI hi
   have e34 : ev (.tmp 34) = (.pointer (some ⟨G i, k * 2, none⟩)) := hev.dep 20 34 (by kernel_rfl)
   exact leavesR_value (run_ldB2 rfl e34 (Hik.out _ (hBi.up hS2))) rfl
  ·obtain rfl := oI hi
   have e0 := hev.other 0 (by kernel_rfl)
   simp [Act.eval] at e0
   exact lV (.slice (some ⟨g, 0, none⟩) n cap)
  ·obtain rfl := oI hi
   have e1 := hev.other 1 (by kernel_rfl)
   simp [Act.eval] at e1
   exact lV (.int .i64 (k : Nat))
  ·obtain rfl := oI hi
   have e36 : ev (.tmp 36) = (.slice (some ⟨g, 0, none⟩) n cap) := hev.dep 22 36 (by kernel_rfl)
   have e37 : ev (.tmp 37) = (.int .i64 (k : Nat)) := hev.dep 23 37 (by kernel_rfl)
   exact lV (.pointer (some ⟨g, k, none⟩))
  ·obtain rfl := oI hi
   have e38 : ev (.tmp 38) = (.pointer (some ⟨g, k, none⟩)) := hev.dep 24 38 (by kernel_rfl)
   have hcx := HCk.out w9 (hBg.up hS2); exact leavesR_value (u := .slice (some ⟨G k, 0, none⟩) m ck) (by go_simp) rfl
  ·obtain rfl := oI hi
   have e3 := hev.other 3 (by kernel_rfl)
   simp [Act.eval] at e3
   exact lV (.int .i64 (j : Nat))
  ·obtain rfl := oI hi
   have e39 : ev (.tmp 39) = (.slice (some ⟨G k, 0, none⟩) m ck) := hev.dep 25 39 (by kernel_rfl)
   have e40 : ev (.tmp 40) = (.int .i64 (j : Nat)) := hev.dep 26 40 (by kernel_rfl)
   exact lV (.pointer (some ⟨G k, j * 2, none⟩))
  ·obtain rfl := oI hi
   have e41 : ev (.tmp 41) = (.pointer (some ⟨G k, j * 2, none⟩)) := hev.dep 27 41 (by kernel_rfl)
   exact leavesR_value (run_ldB2 rfl e41 (Hkj.out _ (hBk.up hS2))) rfl
  ·obtain rfl := oI hi
   have e35 : ev (.tmp 35) = (.agg #[.bool bik, .slice aik nik cik]) := hev.dep 21 35 (by kernel_rfl)
   have e42 : ev (.tmp 42) = (.agg #[.bool bkj, .slice akj nkj ckj]) := hev.dep 28 42 (by kernel_rfl)
   refine leavesR_call ?_ (HM2.out _ _ _ (e35 ▸ hik.up hS2) (e42 ▸ hkj.up hS2))
   go_simp
  ·obtain rfl := oI hi
   have e28 : (fun v w1 => Big w1 v y1) (ev (.tmp 28)) w9 := hev.dep 14 28 (by kernel_rfl)
   dsimp only at e28
   obtain ⟨v28, hv28⟩ : ∃ v, ev (.tmp 28) = v := ⟨_, rfl⟩
   rw [hv28] at e28
   have e43 : (fun v w1 => Big w1 v y2) (ev (.tmp 43)) w9 := hev.dep 29 43 (by kernel_rfl)
   dsimp only at e43
   obtain ⟨v43, hv43⟩ : ∃ v, ev (.tmp 43) = v := ⟨_, rfl⟩
   rw [hv43] at e43
   refine leavesR_call ?_ (HS.out _ _ _ e28 e43)
   go_simp
  ·obtain rfl := oI hi
   have e9 := hev.other 9 (by kernel_rfl)
   simp [Act.eval] at e9
   exact leavesR_value (run_ldBR rfl (by go_simp) hS1 rfl) rfl
  ·obtain rfl := oI hi
   have e44 : (fun v w1 => Big w1 v y3) (ev (.tmp 44)) w9 := hev.dep 30 44 (by kernel_rfl)
   dsimp only at e44
   obtain ⟨v44, hv44⟩ : ∃ v, ev (.tmp 44) = v := ⟨_, rfl⟩
   rw [hv44] at e44
   have e45 : ev (.tmp 45) = (.agg #[.bool pb, .slice pa pn pc]) := hev.dep 31 45 (by kernel_rfl)
   refine leavesR_call ?_ ((HD.out _ _ _ e44 (e45 ▸ hp.up hS2)).mono fun _ _ h => ⟨h.1, by obtain ⟨_, v, h0, b1, a1, n1, c1, b2, a2, n2, c2, h1, h2, _⟩ := h; exact ⟨v, h0, b1, a1, n1, c1, b2, a2, n2, c2, h1, h2⟩⟩)
   go_simp
  ·obtain rfl := oI hi
   have e46 : (fun v w1 => ∃ b1 a1 n1 c1 b2 a2 n2 c2, v = .tuple #[.agg #[.bool b1, .slice a1 n1 c1], .agg #[.bool b2, .slice a2 n2 c2]] /\ Big w1 (.agg #[.bool b1, .slice a1 n1 c1]) y4) (ev (.tmp 46)) w9 := hev.dep 32 46 (by kernel_rfl)
   dsimp only at e46
   obtain ⟨v46, hv46⟩ : ∃ v, ev (.tmp 46) = v := ⟨_, rfl⟩
   rw [hv46] at e46
   obtain ⟨b1, a1, n1, c1, b2, a2, n2, c2, rfl, h2⟩ := e46; exact leavesR_value (u := .tuple #[.agg #[.bool b1, .slice a1 n1 c1], .agg #[.bool b2, .slice a2 n2 c2]]) (by go_simp) ⟨_, _, _, _, _, _, _, _, rfl, h2⟩
  ·obtain rfl := oI hi
   have e13 : (fun v w1 => ∃ b1 a1 n1 c1 b2 a2 n2 c2, v = .tuple #[.agg #[.bool b1, .slice a1 n1 c1], .agg #[.bool b2, .slice a2 n2 c2]] /\ Big w1 (.agg #[.bool b1, .slice a1 n1 c1]) y4) (ev (.tmp 13)) w9 := hev.dep 33 13 (by kernel_rfl)
   dsimp only at e13
   obtain ⟨v13, hv13⟩ : ∃ v, ev (.tmp 13) = v := ⟨_, rfl⟩
   rw [hv13] at e13
   obtain ⟨b1, a1, n1, c1, b2, a2, n2, c2, rfl, h2⟩ := e13; exact leavesR_value (u := .agg #[.bool b1, .slice a1 n1 c1]) (by go_simp) h2
  ·obtain rfl := oI hi
   have e13 : (fun v w1 => ∃ b1 a1 n1 c1 b2 a2 n2 c2, v = .tuple #[.agg #[.bool b1, .slice a1 n1 c1], .agg #[.bool b2, .slice a2 n2 c2]] /\ Big w1 (.agg #[.bool b1, .slice a1 n1 c1]) y4) (ev (.tmp 13)) w9 := hev.dep 33 13 (by kernel_rfl)
   dsimp only at e13
   obtain ⟨v13, hv13⟩ : ∃ v, ev (.tmp 13) = v := ⟨_, rfl⟩
   rw [hv13] at e13
   obtain ⟨b1, a1, n1, c1, b2, a2, n2, c2, rfl, h2⟩ := e13; exact leavesR_value (u := .agg #[.bool b2, .slice a2 n2 c2]) (by go_simp) ⟨_, _, _, _, rfl⟩
  ·obtain rfl := oI hi
   exact leavesR_up (u := .pointer (some ⟨w9.heap.size, 0, none⟩)) (w' := w9.alloc (.cells #[.bool false, .slice none 0 0] 59)) (by go_simp) (Up.alloc _ _) ⟨_, rfl, hS3.size, Blk.new _ _ rfl⟩
  ·obtain rfl := oI hi
   exact leavesR_up (u := .pointer (some ⟨w9.heap.size, 0, none⟩)) (w' := w9.alloc (.cells #[.bool false, .slice none 0 0] 59)) (by go_simp) (Up.alloc _ _) ⟨_, rfl, hS3.size, Blk.new _ _ rfl⟩
  ·exact absurd rfl hne1
  ·exact absurd rfl hne2
  ·exact absurd (show i + 40 < 40 from (Array.getElem?_eq_some_iff.1 hi).1) (by omega)
 have ⟨hS1, hS2, hS3, hSB⟩ := hSE
 have q0 : gR 14 = (.slice (some ⟨g, 0, none⟩) n cap) := hq 0 14 (by decide) (by decide) (by decide) (by kernel_rfl)
 have q1 : gR 15 = (.int .i64 (k : Nat)) := hq 1 15 (by decide) (by decide) (by decide) (by kernel_rfl)
 have q2 : gR 16 = (.pointer (some ⟨g, k, none⟩)) := hq 2 16 (by decide) (by decide) (by decide) (by kernel_rfl)
 have q3 : gR 17 = (.slice (some ⟨G k, 0, none⟩) m ck) := hq 3 17 (by decide) (by decide) (by decide) (by kernel_rfl)
 have q4 : gR 18 = (.int .i64 (k : Nat)) := hq 4 18 (by decide) (by decide) (by decide) (by kernel_rfl)
 have q5 : gR 19 = (.pointer (some ⟨G k, k * 2, none⟩)) := hq 5 19 (by decide) (by decide) (by decide) (by kernel_rfl)
 have q6 : gR 20 = (.agg #[.bool bkk, .slice akk nkk ckk]) := hq 6 20 (by decide) (by decide) (by decide) (by kernel_rfl)
 have q7 : gR 21 = (.slice (some ⟨g, 0, none⟩) n cap) := hq 7 21 (by decide) (by decide) (by decide) (by kernel_rfl)
 have q8 : gR 22 = (.int .i64 (i : Nat)) := hq 8 22 (by decide) (by decide) (by decide) (by kernel_rfl)
 have q9 : gR 23 = (.pointer (some ⟨g, i, none⟩)) := hq 9 23 (by decide) (by decide) (by decide) (by kernel_rfl)
 have q10 : gR 24 = (.slice (some ⟨G i, 0, none⟩) m ci) := hq 10 24 (by decide) (by decide) (by decide) (by kernel_rfl)
 have q11 : gR 25 = (.int .i64 (j : Nat)) := hq 11 25 (by decide) (by decide) (by decide) (by kernel_rfl)
 have q12 : gR 26 = (.pointer (some ⟨G i, j * 2, none⟩)) := hq 12 26 (by decide) (by decide) (by decide) (by kernel_rfl)
 have q13 : gR 27 = (.agg #[.bool bij, .slice aij nij cij]) := hq 13 27 (by decide) (by decide) (by decide) (by kernel_rfl)
 have q14 : (fun v w1 => Big w1 v y1) (gR 28) wE := hq 14 28 (by decide) (by decide) (by decide) (by kernel_rfl)
 dsimp only at q14
 obtain ⟨v28, hv28⟩ : ∃ v, gR 28 = v := ⟨_, rfl⟩
 rw [hv28] at q14
 have q15 : gR 29 = (.slice (some ⟨g, 0, none⟩) n cap) := hq 15 29 (by decide) (by decide) (by decide) (by kernel_rfl)
 have q16 : gR 30 = (.int .i64 (i : Nat)) := hq 16 30 (by decide) (by decide) (by decide) (by kernel_rfl)
 have q17 : gR 31 = (.pointer (some ⟨g, i, none⟩)) := hq 17 31 (by decide) (by decide) (by decide) (by kernel_rfl)
 have q18 : gR 32 = (.slice (some ⟨G i, 0, none⟩) m ci) := hq 18 32 (by decide) (by decide) (by decide) (by kernel_rfl)
 have q19 : gR 33 = (.int .i64 (k : Nat)) := hq 19 33 (by decide) (by decide) (by decide) (by kernel_rfl)
 have q20 : gR 34 = (.pointer (some ⟨G i, k * 2, none⟩)) := hq 20 34 (by decide) (by decide) (by decide) (by kernel_rfl)
 have q21 : gR 35 = (.agg #[.bool bik, .slice aik nik cik]) := hq 21 35 (by decide) (by decide) (by decide) (by kernel_rfl)
 have q22 : gR 36 = (.slice (some ⟨g, 0, none⟩) n cap) := hq 22 36 (by decide) (by decide) (by decide) (by kernel_rfl)
 have q23 : gR 37 = (.int .i64 (k : Nat)) := hq 23 37 (by decide) (by decide) (by decide) (by kernel_rfl)
 have q24 : gR 38 = (.pointer (some ⟨g, k, none⟩)) := hq 24 38 (by decide) (by decide) (by decide) (by kernel_rfl)
 have q25 : gR 39 = (.slice (some ⟨G k, 0, none⟩) m ck) := hq 25 39 (by decide) (by decide) (by decide) (by kernel_rfl)
 have q26 : gR 40 = (.int .i64 (j : Nat)) := hq 26 40 (by decide) (by decide) (by decide) (by kernel_rfl)
 have q27 : gR 41 = (.pointer (some ⟨G k, j * 2, none⟩)) := hq 27 41 (by decide) (by decide) (by decide) (by kernel_rfl)
 have q28 : gR 42 = (.agg #[.bool bkj, .slice akj nkj ckj]) := hq 28 42 (by decide) (by decide) (by decide) (by kernel_rfl)
 have q29 : (fun v w1 => Big w1 v y2) (gR 43) wE := hq 29 43 (by decide) (by decide) (by decide) (by kernel_rfl)
 dsimp only at q29
 obtain ⟨v43, hv43⟩ : ∃ v, gR 43 = v := ⟨_, rfl⟩
 rw [hv43] at q29
 have q30 : (fun v w1 => Big w1 v y3) (gR 44) wE := hq 30 44 (by decide) (by decide) (by decide) (by kernel_rfl)
 dsimp only at q30
 obtain ⟨v44, hv44⟩ : ∃ v, gR 44 = v := ⟨_, rfl⟩
 rw [hv44] at q30
 have q31 : gR 45 = (.agg #[.bool pb, .slice pa pn pc]) := hq 31 45 (by decide) (by decide) (by decide) (by kernel_rfl)
 have q32 : (fun v w1 => ∃ b1 a1 n1 c1 b2 a2 n2 c2, v = .tuple #[.agg #[.bool b1, .slice a1 n1 c1], .agg #[.bool b2, .slice a2 n2 c2]] /\ Big w1 (.agg #[.bool b1, .slice a1 n1 c1]) y4) (gR 46) wE := hq 32 46 (by decide) (by decide) (by decide) (by kernel_rfl)
 dsimp only at q32
 obtain ⟨v46, hv46⟩ : ∃ v, gR 46 = v := ⟨_, rfl⟩
 rw [hv46] at q32
 have q33 : (fun v w1 => ∃ b1 a1 n1 c1 b2 a2 n2 c2, v = .tuple #[.agg #[.bool b1, .slice a1 n1 c1], .agg #[.bool b2, .slice a2 n2 c2]] /\ Big w1 (.agg #[.bool b1, .slice a1 n1 c1]) y4) (gR 13) wE := hq 33 13 (by decide) (by decide) (by decide) (by kernel_rfl)
 dsimp only at q33
 obtain ⟨v13, hv13⟩ : ∃ v, gR 13 = v := ⟨_, rfl⟩
 rw [hv13] at q33
 have q34 : (fun v w1 => Big w1 v y4) (gR 47) wE := hq 34 47 (by decide) (by decide) (by decide) (by kernel_rfl)
 dsimp only at q34
 obtain ⟨v47, hv47⟩ : ∃ v, gR 47 = v := ⟨_, rfl⟩
 rw [hv47] at q34
 have q36 : (fun v w1 => ∃ b, v = .pointer (some ⟨b, 0, none⟩) /\ W1.heap.size <= b /\ Blk w1 b 59 #[.bool false, .slice none 0 0]) (gR 11) wE := hq 36 11 (by decide) (by decide) (by decide) (by kernel_rfl)
 dsimp only at q36
 obtain ⟨v11, hv11⟩ : ∃ v, gR 11 = v := ⟨_, rfl⟩
 rw [hv11] at q36
 have q37 : (fun v w1 => ∃ b, v = .pointer (some ⟨b, 0, none⟩) /\ W1.heap.size <= b /\ Blk w1 b 59 #[.bool false, .slice none 0 0]) (gR 12) wE := hq 37 12 (by decide) (by decide) (by decide) (by kernel_rfl)
 dsimp only at q37
 obtain ⟨v12, hv12⟩ : ∃ v, gR 12 = v := ⟨_, rfl⟩
 rw [hv12] at q37
 obtain rfl := oI ho1
 obtain rfl := oI ho2
 obtain rfl := oI hox
 rw [hv11, hv12] at hJ
 simp only [putL, List.map_cons, List.map_nil, q0, q1, q2, q3, q4, q5, q6, q7, q8, q9, q10, q11, q12, q13, hv28, q15, q16, q17, q18, q19, q20, q21, q22, q23, q24, q25, q26, q27, q28, hv43, hv44, q31, hv46, hv13, hv47, hv11, hv12, Act.put, pu1, pu2, pu3]
 clear hq hSE q0 q1 q2 q3 q4 q5 q6 q7 q8 q9 q10 q11 q12 q13 q15 q16 q17 q18 q19 q20 q21 q22 q23 q24 q25 q26 q27 q28 q31
 obtain ⟨b4, a4, m4, c4, rfl⟩ := q34.shape
 obtain ⟨z1, rfl, hz1, hBz1⟩ := q36
 obtain ⟨z2, rfl, hz2, hBz2⟩ := q37
 have hne : z2 ≠ z1 := fun e => hJ (by rw [e])
 have hsz : w.heap.size + 1 < W1.heap.size := hBr.lt
 have g1 := hBz1.setRow #[.bool b4, .slice a4 m4 c4]
 have g2 := big_set (D := #[.bool b4, .slice a4 m4 c4]) hBz1 q34
 have g3 := Blk.row_other hBz2 #[.bool b4, .slice a4 m4 c4] hne
 have g4 := Blk.row_other (hBr.up hS3) #[.bool b4, .slice a4 m4 c4] (show w.heap.size + 1 ≠ z1 by omega)
 have g5 : Up w _ := below_setRow hS2 (show w.heap.size <= z1 by omega) #[.bool b4, .slice a4 m4 c4]
 refine ⟨fun hx => ?_, ?_⟩
 ·obtain ⟨b5, a5, m5, c5, h5⟩ := hx 48 rfl
  rw [h5]
  refine wp_stB rfl rfl rfl rfl hBz1 rfl rfl (one2 _ _ _ _) ?_
  refine wp_stB rfl rfl rfl rfl g3 rfl rfl (one2 _ _ _ _) ?_
  have k1 := Blk.row_other g1 #[.bool b5, .slice a5 m5 c5] (Ne.symm hne)
  have k2 := big_set (D := #[.bool b5, .slice a5 m5 c5]) g3 g2
  have k4 := Blk.row_other g4 #[.bool b5, .slice a5 m5 c5] (show w.heap.size + 1 ≠ z2 by omega)
  have k5 : Up w _ := below_setRow g5 (show w.heap.size <= z2 by omega) #[.bool b5, .slice a5 m5 c5]
  obtain ⟨wK, hwK⟩ : ∃ wK, (wE.setRow z1 #[.bool b4, .slice a4 m4 c4]).setRow z2 #[.bool b5, .slice a5 m5 c5] = wK := ⟨_, rfl⟩
  rw [hwK] at k1 k2 k4 k5 ⊢
  clear hwK g1 g2 g3 g4 g5 hS1 hS2 hS3 hSB huE hBz1 hBz2 q14 q29 q30 q32 q33 q34 hx
  go_wp2_with (first
   | ((with_reducible apply ldB_P); exact rfl; exact rfl; exact k1; exact rfl)
   | ((with_reducible apply stB_P); exact rfl; exact rfl; exact k4; exact rfl; exact rfl; exact one2 _ _ _ _
      refine wpL_folded (fun wd => Up w wd /\ Blk wd (w.heap.size + 1) 59 #[.bool b4, .slice a4 m4 c4] /\ Big wd (.agg #[.bool b4, .slice a4 m4 c4]) y4) ⟨below_setRow k5 (by omega) _, Blk.setRow k4 _, big_set k4 k2⟩ ?_
      rintro w6 ⟨j5, j4, j2⟩))
  exact bodyPost_ret (resB rfl rfl j4 rfl) rfl ⟨j5, _, rfl, j2⟩
 ·obtain ⟨b1, a1, m1, c1, b2, a2, m2, c2, rfl, -⟩ := q33
  refine wp_stB rfl rfl rfl rfl hBz1 rfl rfl (one2 _ _ _ _) ?_
  refine wp_val (v := .agg #[.bool b2, .slice a2 m2 c2]) (by go_simp) ?_
  refine wp_stB rfl rfl rfl rfl g3 rfl rfl (one2 _ _ _ _) ?_
  have k1 := Blk.row_other g1 #[.bool b2, .slice a2 m2 c2] (Ne.symm hne)
  have k2 := big_set (D := #[.bool b2, .slice a2 m2 c2]) g3 g2
  have k4 := Blk.row_other g4 #[.bool b2, .slice a2 m2 c2] (show w.heap.size + 1 ≠ z2 by omega)
  have k5 : Up w _ := below_setRow g5 (show w.heap.size <= z2 by omega) #[.bool b2, .slice a2 m2 c2]
  obtain ⟨wK, hwK⟩ : ∃ wK, (wE.setRow z1 #[.bool b4, .slice a4 m4 c4]).setRow z2 #[.bool b2, .slice a2 m2 c2] = wK := ⟨_, rfl⟩
  rw [hwK] at k1 k2 k4 k5 ⊢
  clear hwK g1 g2 g3 g4 g5 hS1 hS2 hS3 hSB huE hBz1 hBz2 q14 q29 q30 q32 q34
  go_wp2_with (first
   | ((with_reducible apply ldB_P); exact rfl; exact rfl; exact k1; exact rfl)
   | ((with_reducible apply stB_P); exact rfl; exact rfl; exact k4; exact rfl; exact rfl; exact one2 _ _ _ _
      refine wpL_folded (fun wd => Up w wd /\ Blk wd (w.heap.size + 1) 59 #[.bool b4, .slice a4 m4 c4] /\ Big wd (.agg #[.bool b4, .slice a4 m4 c4]) y4) ⟨below_setRow k5 (by omega) _, Blk.setRow k4 _, big_set k4 k2⟩ ?_
      rintro w6 ⟨j5, j4, j2⟩))
  exact bodyPost_ret (resB rfl rfl j4 rfl) rfl ⟨j5, _, rfl, j2⟩
theorem rsign_big {v : Value} {z : Int} {w : World} (h : Big w v z) : Calls Tryz.prog 52 #[v] w fun r w' => r = .returned (.int .i64 (sgn z)) /\ Up w w' := by
 obtain ⟨a, c, rfl, -⟩ := h
 rw [<- sgn_big]
 exact bsign_any _ _ _ _ _
theorem OwnB.blk {w : World} {b : Nat} {v : Value} {l : List Int} (h : OwnB w b v l) : ∀ k, v.ownBlock = some k -> b <= k /\ k < w.heap.size /\ ∃ C, Blk w k 59 C := by
 intro k hk
 obtain ⟨xs, hx, _⟩ := h
 have hlt := World.ownsRow.lt hx k hk
 obtain ⟨_, ⟨rfl, _⟩ | ⟨g', cap, cur, rfl, _, hB, _⟩⟩ := hx
 ·simp [Value.ownBlock] at hk
 ·simp [Value.ownBlock] at hk; subst hk; exact ⟨hlt.1, hlt.2, cur, hB⟩
theorem OwnB.lower {w : World} {b g : Nat} {v : Value} {l : List Int} {C : Array Value} (h : OwnB w b v l) (hC : Blk w g 59 C) (D : Array Value) (hg : g < b) : OwnB (w.setRow g D) b v l := by
 obtain ⟨xs, ⟨h0, h1⟩, h2⟩ := h
 refine ⟨xs, ⟨h0, ?_⟩, fun i hi => ?_⟩
 ·rcases h1 with h1 | ⟨g', cap, cur, hv, hb, hB, hr⟩
  ·exact .inl h1
  ·exact .inr ⟨g', cap, cur, hv, hb, Blk.row_other (w := w) hB _ (by omega), hr⟩
 ·obtain ⟨b', a, n, c, e1, e2, e3⟩ := h2 i hi
  exact ⟨b', a, n, c, e1, e2, e3.setRow hC⟩
theorem OwnM.otherB {w : World} {base n m p : Nat} {v : Value} {G : Nat -> Nat} {V : Nat -> Nat -> Int} {C : Array Value} (h : OwnM w base v n m G V) (hC : Blk w p 59 C) (D : Array Value) (hp : ∀ i, i < n -> G i ≠ p) : OwnM (w.setRow p D) base v n m G V := by
 obtain ⟨xs, ⟨h0, h1⟩, h2, h3, h4⟩ := h
 refine ⟨xs, ⟨h0, ?_⟩, h2, fun i hi => ⟨(h3 i hi).1, (h3 i hi).2.other hC _ (hp i hi)⟩, h4⟩
 rcases h1 with h1 | ⟨g', cap, cur, hv, hb, hB, hr⟩
 ·exact .inl h1
 ·refine .inr ⟨g', cap, cur, hv, hb, Blk.row_other (w := w) hB _ fun e => ?_, hr⟩
  subst e
  unfold Blk at hC
  rw [hC] at hB
  simp at hB
theorem OwnM.grownB {w w' : World} {base n m : Nat} {v : Value} {G : Nat -> Nat} {V : Nat -> Nat -> Int} {row : Option Nat} (h : OwnM w base v n m G V) (hg : w.grownBy w' row) (hr : ∀ k, row = some k -> (∃ C, Blk w k 59 C) /\ ∀ i, i < n -> G i ≠ k) : OwnM w' base v n m G V := by
 obtain ⟨xs, ⟨h0, h1⟩, h2, h3, h4⟩ := h
 refine ⟨xs, ⟨h0, ?_⟩, h2, fun i hi => ⟨(h3 i hi).1, ?_⟩, h4⟩
 ·rcases h1 with h1 | ⟨g', cap, cur, hv, hb, hB, hq⟩
  ·exact .inl h1
  ·refine .inr ⟨g', cap, cur, hv, hb, Blk.grown hB hg fun e => ?_, hq⟩
   obtain ⟨C, hC⟩ := (hr g' e).1
   unfold Blk at hC
   rw [hC] at hB
   simp at hB
 ·obtain ⟨C, e1, e2, e3⟩ := (h3 i hi).2
  refine ⟨C, e1.grown hg fun e => (hr _ e).2 i hi rfl, e2, fun j hj => ?_⟩
  obtain ⟨b, a, k, c, e4, e5, e6⟩ := e3 j hj
  exact ⟨b, a, k, c, e4, e5, e6.grown hg fun k hk => (hr k hk).1⟩
structure MI (w : World) (base bP bO n : Nat) (av : Value) (G : Nat -> Nat) (b0 : Bool) (p0 : Option Addr) (n0 c0 : Nat) (q : Int) (tv : Value) (L : List Int) (V : Nat -> Nat -> Int) (wr : World) : Prop where
 m : OwnM wr base av n n G V
 p : Blk wr bP 59 #[.bool b0, .slice p0 n0 c0]
 q : Big wr (.agg #[.bool b0, .slice p0 n0 c0]) q
 l : OwnB wr bO tv L
 u : Below base w wr
theorem MI.up {w : World} {base bP bO n : Nat} {av : Value} {G : Nat -> Nat} {b0 : Bool} {p0 : Option Addr} {n0 c0 : Nat} {q : Int} {tv : Value} {L : List Int} {V : Nat -> Nat -> Int} {wr wr' : World} (h : MI w base bP bO n av G b0 p0 n0 c0 q tv L V wr) (hu : Up wr wr') (hb : base <= w.heap.size) : MI w base bP bO n av G b0 p0 n0 c0 q tv L V wr' :=
 ⟨h.m.up hu, h.p.up hu, h.q.up hu, h.l.up hu, hu.below h.u (Nat.le_trans hb h.u.size)⟩
theorem MI.set {w : World} {base bP bO n : Nat} {av : Value} {G : Nat -> Nat} {b0 : Bool} {p0 : Option Addr} {n0 c0 : Nat} {q : Int} {tv : Value} {L : List Int} {V : Nat -> Nat -> Int} {wr : World} (h : MI w base bP bO n av G b0 p0 n0 c0 q tv L V wr) {i j : Nat} (hi : i < n) (hj : j < n) (hG : ∀ q, q < n -> G q < bP) (hPO : bP < bO)
   {C : Array Value} (hC : Blk wr (G i) 59 C) {b : Bool} {p : Option Addr} {k c : Nat} {z : Int} (hz : Big wr (.agg #[.bool b, .slice p k c]) z) :
   MI w base bP bO n av G b0 p0 n0 c0 q tv L (upd2 V i j z) (wr.setRow (G i) (splB C (j * 2) [.bool b, .slice p k c])) := by
 have hg := hG i hi
 have hb : base <= G i := by obtain ⟨_, _, _, h3, _⟩ := h.m; exact (h3 i hi).1
 exact ⟨(h.m.set hi hj hC hz).1, Blk.row_other h.p _ (by omega), h.q.setRow hC, h.l.lower hC _ (by omega), below_setRow h.u hb _⟩
def At1 (n k : Nat) (q : Int) (M : Nat -> Nat -> Int) (i j : Nat) (V : Nat -> Nat -> Int) : Prop :=
 ∀ r c, k <= r -> r < n -> k <= c -> c < n -> V r c = if k + 1 <= r /\ k + 1 <= c /\ (r < i \/ r = i /\ c < j) then nxt q M (r - (k + 1)) (c - (k + 1)) else M (r - k) (c - k)
theorem At1.start {n k : Nat} {q : Int} {M V : Nat -> Nat -> Int} (h : ∀ r c, k <= r -> r < n -> k <= c -> c < n -> V r c = M (r - k) (c - k)) : At1 n k q M (k + 1) (k + 1) V := fun r c h1 h2 h3 h4 => by
 rw [if_neg (by omega)]; exact h r c h1 h2 h3 h4
theorem At1.row {n k i : Nat} {q : Int} {M V : Nat -> Nat -> Int} (h : At1 n k q M i n V) : At1 n k q M (i + 1) (k + 1) V := fun r c h1 h2 h3 h4 => by
 rw [h r c h1 h2 h3 h4]
 by_cases e : k + 1 <= r /\ k + 1 <= c /\ (r < i \/ r = i /\ c < n)
 ·rw [if_pos e, if_pos (by omega)]
 ·rw [if_neg e, if_neg (by omega)]
theorem At1.all {n k : Nat} {q : Int} {M V : Nat -> Nat -> Int} (h : At1 n k q M n (k + 1) V) : ∀ r c, k + 1 <= r -> r < n -> k + 1 <= c -> c < n -> V r c = nxt q M (r - (k + 1)) (c - (k + 1)) := fun r c h1 h2 h3 h4 => by
 rw [h r c (by omega) h2 (by omega) h4, if_pos (by omega)]
theorem At1.old {n k i j : Nat} {q : Int} {M V : Nat -> Nat -> Int} (h : At1 n k q M i j V) {r c : Nat} (h1 : k <= r) (h2 : r < n) (h3 : k <= c) (h4 : c < n) (e : ¬ (k + 1 <= r /\ k + 1 <= c /\ (r < i \/ r = i /\ c < j))) : V r c = M (r - k) (c - k) := by
 rw [h r c h1 h2 h3 h4, if_neg e]
theorem At1.step {n k i j : Nat} {q : Int} {M V : Nat -> Nat -> Int} (h : At1 n k q M i j V) (hi : k + 1 <= i) (hin : i < n) (hj : k + 1 <= j) (hjn : j < n) : (V k k * V i j - V i k * V k j).tdiv q = nxt q M (i - (k + 1)) (j - (k + 1)) := by
 rw [h.old (r := k) (c := k) (by omega) (by omega) (by omega) (by omega) (by omega), h.old (r := i) (c := j) (by omega) (by omega) (by omega) (by omega) (by omega), h.old (r := i) (c := k) (by omega) (by omega) (by omega) (by omega) (by omega), h.old (r := k) (c := j) (by omega) (by omega) (by omega) (by omega) (by omega)]
 unfold nxt chio
 rw [Nat.sub_self, show i - (k + 1) + 1 = i - k by omega, show j - (k + 1) + 1 = j - k by omega]
theorem At1.set {n k i j : Nat} {q : Int} {M V : Nat -> Nat -> Int} (h : At1 n k q M i j V) (hi : k + 1 <= i) (hj : k + 1 <= j) : At1 n k q M i (j + 1) (upd2 V i j (nxt q M (i - (k + 1)) (j - (k + 1)))) := fun r c h1 h2 h3 h4 => by
 unfold upd2
 by_cases e : r = i /\ c = j
 ·rw [if_pos e, e.1, e.2, if_pos (by omega)]
 ·rw [if_neg e, h r c h1 h2 h3 h4]
  by_cases e2 : k + 1 <= r /\ k + 1 <= c /\ (r < i \/ r = i /\ c < j)
  ·rw [if_pos e2, if_pos (by omega)]
  ·rw [if_neg e2, if_neg (by omega)]
def e0 : Nat -> Int := fun c => if c = 0 then 1 else 0
def one0 (A : Nat -> Nat -> Int) : Nat -> Nat -> Int := updR A 0 fun c => 1 * A 0 c + (1 - A 0 0) * e0 c
def prodN : Nat -> (Nat -> Nat) -> Nat
 | 0, _ => 1
 | n + 1, f => f 0 * prodN n fun i => f (i + 1)
def cb (n j : Nat) : Nat := if j = n then 72057594037927936 else 1073741824
def AV (n : Nat) (l v : List Int) : Nat -> Nat -> Int := fun i j =>
 if i < n then (if j < n then ent n l i j else if j = n then zth v i else 0) else if i = j + n then -1 else 0
def bv (k r : Nat) : Nat := fct (r + k + 1) * (1073741824 ^ (r + k) * 72057594037927936)
def SV (q : Int) (k : Nat) (M : Nat -> Nat -> Int) : Prop := Good q (bv k) M /\ 0 < q /\ q.natAbs < bp 5
def gs (A : Nat -> Nat -> Int) : Nat -> Int × (Nat -> Nat -> Int)
 | 0 => (1, A)
 | k + 1 => ((gs A k).2 0 0, nxt (gs A k).1 (gs A k).2)
structure Def (n : Nat) (l v : List Int) : Prop where
 right : rt n l = true
 pos : ∀ x ∈ mins n 1 (AM n l), 0 < x
 vec : ∀ i, (zth v i).natAbs <= 72057594037927936
theorem Def.n8 {n : Nat} {l v : List Int} (h : Def n l v) : n <= 8 := by have := (rt_spec h.right).2.1; omega
def slX (n : Nat) (l v : List Int) (i : Nat) : Int := (gs (AV n l v) n).2 i 0
def slD (n : Nat) (l : List Int) : Int := det n (AM n l)
def Win (n s : Nat) (L : List (List Int)) (M : Nat -> Nat -> Int) : Prop := L.length = n /\ ∀ i, i < n -> (L.getD i []).length = s + 1 /\ ∀ j, j < s + 1 -> zth (L.getD i []) j = M i j
def turn (q : Int) (s : Nat) (L : List (List Int)) : List (List Int) := ((L.drop 1).map fun R => tk (L.getD 0 []) R q (s + 1)) ++ [(L.getD 0 []).drop 1]
def zz (n : Nat) (l v : List Int) (c : Nat) : Int := if c < n then slX n l v c else -(slD n l)
def Run (B n : Nat) (A : Nat -> Nat -> Int) : Prop := ∀ k, k < n -> (∀ j, j < k -> 0 < (gs A j).2 0 0) -> 0 < (gs A k).1 /\ (gs A k).1.natAbs < bp B /\ ∀ i j, ((gs A k).2 i j).natAbs < bp B
theorem mins_succ (s : Nat) (q : Int) (M : Nat -> Nat -> Int) : mins (s + 1) q M = M 0 0 :: (if 0 < M 0 0 then mins s (M 0 0) (nxt q M) else []) := rfl
def Left (n k : Nat) (M V : Nat -> Nat -> Int) : Prop := ∀ r c, k <= r -> r < n -> k <= c -> c < n -> V r c = M (r - k) (c - k)
theorem Left.start {n : Nat} {A V : Nat -> Nat -> Int} (h : ∀ i j, i < n -> j < n -> V i j = A i j) : Left n 0 A V := fun r c _ h2 _ h4 => h r c h2 h4
theorem MI.app {w : World} {base bP bO n : Nat} {av : Value} {G : Nat -> Nat} {b0 : Bool} {p0 : Option Addr} {n0 c0 : Nat} {q z : Int} {tv : Value} {L : List Int} {V : Nat -> Nat -> Int} {wr w' : World} {v' : Value} (h : MI w base bP bO n av G b0 p0 n0 c0 q tv L V wr) (hG : ∀ q, q < n -> G q < bP) (hPO : bP < bO) (hb : base <= bO)
   (hO : OwnB w' bO v' (L ++ [z])) (hg : wr.grownBy w' tv.ownBlock) (hB : Below bO wr w') : MI w base bP bO n av G b0 p0 n0 c0 q v' (L ++ [z]) V w' :=
 ⟨h.m.grownB hg fun k hk => ⟨(h.l.blk k hk).2.2, fun i hi => by have h1 := (h.l.blk k hk).1; have h2 := hG i hi; omega⟩, Blk.below h.p hB hPO, h.q.grown hg fun k hk => (h.l.blk k hk).2.2, hO, Below.trans h.u (Below.mono hB hb)⟩
theorem MI.prev {w : World} {base bP bO n : Nat} {av : Value} {G : Nat -> Nat} {b0 b : Bool} {p0 p : Option Addr} {n0 c0 m c : Nat} {q z : Int} {tv : Value} {L : List Int} {V : Nat -> Nat -> Int} {wr : World} (h : MI w base bP bO n av G b0 p0 n0 c0 q tv L V wr) (hG : ∀ q, q < n -> G q < bP) (hPO : bP < bO) (hb : base <= bP)
   (hz : Big wr (.agg #[.bool b, .slice p m c]) z) : MI w base bP bO n av G b p m c z tv L V (wr.setRow bP #[.bool b, .slice p m c]) :=
 ⟨h.m.otherB h.p _ fun i hi => by have h2 := hG i hi; omega, h.p.setRow _, hz.setRow h.p, h.l.lower h.p _ hPO, below_setRow h.u hb _⟩
set_option maxHeartbeats 16000000 in
theorem rminors_any {w : World} {base n B : Nat} {av : Value} {G : Nat -> Nat} {V : Nat -> Nat -> Int} (h : OwnM w base av n n G V) (hn : n <= 8) (hB : B <= 100) (hR : Run B n V) (hb : base <= w.heap.size) :
   Calls Tryz.prog 51 #[av] w fun r w' => ∃ z, r = .returned z /\ Below base w w' /\ Bv w' z (mins n 1 V) := by
 obtain ⟨pA, cA, rfl⟩ := h.slice
 have HO1 := hid (fun w => of_big 1 (by decide) (by decide) w)
 have HGl := hid (fun q (hq : q < n) => show G q < w.heap.size from by obtain ⟨_, _, _, h3, _⟩ := h; exact (h3 q hq).2.lt)
 have HR := hid hR
 obtain ⟨T, hT⟩ : ∃ T, mins n 1 V = T := ⟨_, rfl⟩
 have HT := hid hT
 rw [hT]
 have HM := hid h
 clear hT hR h
 go_enter Tryz.func51, Tryz.ntmps51
 go_wp2_with (first
  | (go_at_call 30; (with_reducible refine (HO1.out _).mono ?_); rintro r w4 ⟨hu4, v4, rfl, hB4⟩; obtain ⟨b4, a4, n4, c4, rfl⟩ := hB4.shape)
  | ((with_reducible apply stB_P); exact rfl; exact rfl; exact Blk.new _ _ rfl; exact rfl; exact rfl; exact one2 _ _ _ _
     refine wpL_folded (fun wd => Up w4 wd /\ Blk wd w4.heap.size 59 #[.bool b4, .slice a4 n4 c4] /\ Big wd (.agg #[.bool b4, .slice a4 n4 c4]) 1) ⟨gUp, gBlk, (hB4.up (Up.alloc _ _)).setRow (Blk.new _ _ rfl)⟩ ?_
     rintro w5 ⟨hu5, hb5, hB5⟩))
 have hu := hu4.trans hu5
 have hz4 := hu4.size
 have HG := hid (fun q (hq : q < n) => show G q < w4.heap.size from Nat.lt_of_lt_of_le (HGl.out q hq) hz4)
 have HbP := hid (show base <= w4.heap.size from Nat.le_trans hb hz4)
 obtain ⟨bP, hbP⟩ : ∃ y, w4.heap.size = y := ⟨_, rfl⟩
 rw [hbP] at hb5 HG HbP ⊢
 have hMI : MI w base bP (bP + 1) n (.slice pA n cA) G b4 a4 n4 c4 1 (.slice none 0 0) [] V w5 := ⟨HM.out.up hu, hb5, hB5, OwnB.nil _ _, Below.mono hu hb⟩
 have HB0 := hid hb
 clear hu4 hu5 hb5 hB5 hB4 hz4 hbP hu HGl HM hb HO1
 go_loopg [4, 5] n (fun g t4 t5 wr => ∃ (k : Nat) (V' : Nat -> Nat -> Int) (b0 : Bool) (p0 : Option Addr) (n0 c0 : Nat) (L : List Int), k <= n /\ n - k <= g /\ t5 = .int .i64 (k : Nat) /\ (∀ j, j < k -> 0 < (gs V j).2 0 0) /\ Left n k (gs V k).2 V' /\ L ++ mins (n - k) (gs V k).1 (gs V k).2 = T /\ L.length = k /\ MI w base bP (bP + 1) n (.slice pA n cA) G b0 p0 n0 c0 (gs V k).1 t4 L V' wr)
 case atStart => exact ⟨0, V, b4, a4, n4, c4, [], Nat.zero_le _, by omega, rfl, fun j hj => absurd hj (Nat.not_lt_zero _), Left.start fun _ _ _ _ => rfl, HT.out, rfl, hMI⟩
 case round =>
  clear hMI HT
  obtain ⟨k, V', b0, p0, n0, c0, L, hk, hkg, rfl, hpos, hleft, hdone, hLl, hMI⟩ := hrel
  obtain ⟨pL, cL, rfl⟩ := hMI.l.slice
  have HMI := hid hMI
  have HPos := hid hpos
  have HLeft := hid hleft
  have HDone := hid hdone
  have HSz := hid (show bP + 1 <= wr.heap.size from hMI.p.lt)
  have HLl := hid hLl
  clear hpos hleft hdone hMI hLl
  by_cases hlt : k < n
  ·obtain ⟨s, hs⟩ : ∃ s, n - k = s + 1 := ⟨n - k - 1, by omega⟩
   obtain ⟨gA, cA', CA, hvA, -, hcA, hBA, hEA⟩ := HMI.out.m.open (by omega)
   injection hvA with x1 _ x3
   subst x1 x3
   have HEA := hid hEA
   obtain ⟨ck, hCk⟩ := hEA k hlt
   have HCk := hid hCk
   have hcx := hBA.cell k hCk
   obtain ⟨Ck, bk, ak, nk, dk, hBk, -, h1, h2, hbig⟩ := HMI.out.m.entry hlt hlt
   have HRk := hid (fun w' (hB : Blk w' (G k) 59 Ck) => bigAt_range hB h1 h2)
   obtain ⟨r0, r1, r2⟩ := HR.out k hlt HPos.out
   obtain ⟨q, hq⟩ : ∃ q, (gs V k).1 = q := ⟨_, rfl⟩
   obtain ⟨M, hM⟩ : ∃ M, (gs V k).2 = M := ⟨_, rfl⟩
   have HN1 := hid (show (gs V (k + 1)).1 = M 0 0 from by rw [<- hM]; rfl)
   have HN2 := hid (show (gs V (k + 1)).2 = nxt q M from by rw [<- hM, <- hq]; rfl)
   have HP2 := hid (fun (hp : 0 < M 0 0) j (hj : j < k + 1) => show 0 < (gs V j).2 0 0 from by
    by_cases e : j = k
    ·rw [e, hM]; exact hp
    ·exact HPos.out j (by omega))
   have HD2 := hid (show L ++ (M 0 0 :: (if 0 < M 0 0 then mins s (M 0 0) (nxt q M) else [])) = T from by have h := HDone.out; rw [hq, hM, hs, mins_succ] at h; exact h)
   have HLf : Hid (Left n k M V') := hid (by have h := HLeft.out; rw [hM] at h; exact h)
   have HMQ : Hid (MI w base bP (bP + 1) n (.slice (some ⟨gA, 0, none⟩) n cA) G b0 p0 n0 c0 q (.slice pL L.length cL) L V' wr) := hid (by have h := HMI.out; rw [hq] at h; exact h)
   have h00 : V' k k = M 0 0 := by have h := HLf.out k k (Nat.le_refl _) hlt (Nat.le_refl _) hlt; rwa [Nat.sub_self] at h
   rw [hq] at r0 r1
   rw [hM] at r2
   rw [h00] at hbig
   have HQ := hid (show q ≠ 0 /\ q.natAbs < bp B /\ ∀ i j, (M i j).natAbs < bp B from ⟨Int.ne_of_gt r0, r1, r2⟩)
   have HSg := hid (fun w v (h : Big w v (M 0 0)) => rsign_big h)
   have e1 : IntKind.i64.wrap ((k : Int) + 1) = (k : Int) + 1 := IntWalk.i64_in _ (by omega)
   have HL9 : Hid (L.length < 1000000) := hid (by have := HLl.out; omega)
   have HBB := hid hBA
   obtain ⟨m0, hm0⟩ : ∃ y, M 0 0 = y := ⟨_, rfl⟩
   have HM0 := hid hm0
   rw [hm0] at hbig HSg HN1 HP2 HD2
   clear hq hM hm0 hEA hCk h1 h2 r0 r1 r2 h00 HDone HLeft HMI HPos hcA
   go_upto_region 7 with (first
    | ((with_reducible apply ldB2_P); exact rfl; exact rfl; exact HRk.out _ hBk)
    | ((with_reducible apply bsB_P); exact rfl)
    | ((with_reducible apply appB (l := L) (z := m0)); exact rfl; exact rfl; exact OwnB.up (Up.alloc _ _) HMQ.out.l; exact bigAt_range0 (Blk.new _ _ rfl); exact hbig.up (Up.alloc _ _); (focus (have := HSz.out; simp; omega)); exact HL9.out; rintro v6 w6 hO6 hg6 hb6))
   have h6 := (HMQ.out.up (Up.alloc _ _) HB0.out).app HG.out (Nat.lt_succ_self _) (Nat.le_trans HbP.out (Nat.le_succ _)) hO6 hg6 hb6
   have HLL : Hid (∀ y, L ++ [m0] = y -> y.length = k + 1 /\ (∀ Z, L ++ (m0 :: Z) = y ++ Z)) := hid (fun y hy => by
    rw [<- hy]
    exact ⟨by have := HLl.out; simp; omega, fun Z => by rw [List.append_assoc]; rfl⟩)
   obtain ⟨LL, hLL⟩ : ∃ y, L ++ [m0] = y := ⟨_, rfl⟩
   obtain ⟨hl1, hl2⟩ := HLL.out LL hLL
   have HL3 := hid hl1
   replace HD2 := HD2.out
   rw [hl2] at HD2
   replace HD2 := hid HD2
   rw [hLL] at h6 hO6
   clear hLL hl1 hl2 HLL
   obtain ⟨p6, c6, rfl⟩ := hO6.slice
   obtain ⟨gB, cB, CB, hvB, -, -, hBB, hEB⟩ := h6.m.open (by omega)
   injection hvB with x1 _ x3
   injection x1 with x1
   injection x1 with x1
   subst x1 x3
   have HEB := hid hEB
   obtain ⟨ck6, hCk6⟩ := hEB k hlt
   have hcx := hBB.cell k hCk6
   obtain ⟨Ck6, bk6, ak6, nk6, dk6, hBk6, -, h1, h2, hbig6⟩ := h6.m.entry hlt hlt
   have HRk6 := hid (fun w' (hB : Blk w' (G k) 59 Ck6) => bigAt_range hB h1 h2)
   have h00 : V' k k = m0 := by have h := HLf.out k k (Nat.le_refl _) hlt (Nat.le_refl _) hlt; rwa [Nat.sub_self, HM0.out] at h
   rw [h00] at hbig6
   have H6 := hid h6
   clear hEB hCk6 h1 h2 h00 h6 hO6 hg6 hb6 HSz HRk HMQ HBB hBA hBk hbig HCk HEA
   by_cases hp : 0 < m0
   ·have ds : decide (sgn m0 <= 0) = false := by unfold sgn; rw [decide_eq_false]; split <;> (try split) <;> omega
    have HD3 := hid (show LL ++ mins s m0 (nxt q M) = T from by have h := HD2.out; rw [if_pos hp] at h; exact h)
    have HP3 := hid (HP2.out hp)
    clear HD2 HP2 HLl HL9
    go_wp2_with (first
     | ((with_reducible apply ldB2_P); exact rfl; exact rfl; exact HRk6.out _ hBk6)
     | (go_at_call 52; (with_reducible refine (HSg.out _ _ hbig6).mono ?_); rintro r w7 ⟨rfl, hu7⟩))
    have h7 := H6.out.up hu7 HB0.out
    clear hu7 H6 hBk6 hcx HRk6 hBB HEB hbig6 ds HSg
    go_loopg [6] n (fun g ti wr => ∃ (i : Nat) (V1 : Nat -> Nat -> Int), k + 1 <= i /\ i <= n /\ n - i <= g /\ ti = .int .i64 (i : Nat) /\ At1 n k q M i (k + 1) V1 /\ MI w base bP (bP + 1) n (.slice (some ⟨gA, 0, none⟩) n cA) G b0 p0 n0 c0 q (.slice p6 LL.length c6) LL V1 wr)
    case atStart => exact ⟨k + 1, V', Nat.le_refl _, hlt, by omega, rfl, At1.start HLf.out, h7⟩
    case round =>
     clear h7
     obtain ⟨i, V1, hki, hi, hig, rfl, hAt, hMI⟩ := hrel
     have HAt := hid hAt
     have HMI := hid hMI
     clear hAt hMI
     by_cases hil : i < n
     ·have e2 : IntKind.i64.wrap ((i : Int) + 1) = (i : Int) + 1 := IntWalk.i64_in _ (by omega)
      go_wp2_with fail
      obtain ⟨wO, hwO⟩ : ∃ y, wr = y := ⟨_, rfl⟩
      rw [hwO] at HMI ⊢
      clear hwO
      go_loopg [7] n (fun g tj wr => ∃ (j : Nat) (V1 : Nat -> Nat -> Int), k + 1 <= j /\ j <= n /\ n - j <= g /\ tj = .int .i64 (j : Nat) /\ At1 n k q M i j V1 /\ MI w base bP (bP + 1) n (.slice (some ⟨gA, 0, none⟩) n cA) G b0 p0 n0 c0 q (.slice p6 LL.length c6) LL V1 wr)
      case atStart => exact ⟨k + 1, V1, Nat.le_refl _, hlt, by omega, rfl, HAt.out, HMI.out⟩
      case round =>
       clear HAt HMI
       obtain ⟨j, V2, hkj, hj, hjg, rfl, hAt, hMI⟩ := hrel
       by_cases hjl : j < n
       ·have e3 : IntKind.i64.wrap ((j : Int) + 1) = (j : Int) + 1 := IntWalk.i64_in _ (by omega)
        obtain ⟨gB, cB, CB, hvB, -, -, hBB, hEB⟩ := hMI.m.open (by omega)
        injection hvB with x1 _ x3
        injection x1 with x1
        injection x1 with x1
        subst x1 x3
        obtain ⟨ci, hCi⟩ := hEB i hil
        have HCi := hid (fun w' (hu : Up wr w') => (hBB.up hu).cell i hCi)
        obtain ⟨Ci, bi, ai, ni, di, hBi, hsz, -, -, -⟩ := hMI.m.entry hil hjl
        have hst := hAt.step hki hil hkj hjl
        have f1 := HQ.out.2.2 (k - k) (k - k)
        have f2 := HQ.out.2.2 (i - k) (j - k)
        have f3 := HQ.out.2.2 (i - k) (k - k)
        have f4 := HQ.out.2.2 (k - k) (j - k)
        rw [<- hAt.old (r := k) (c := k) (by omega) (by omega) (by omega) (by omega) (by omega)] at f1
        rw [<- hAt.old (r := i) (c := j) (by omega) (by omega) (by omega) (by omega) (by omega)] at f2
        rw [<- hAt.old (r := i) (c := k) (by omega) (by omega) (by omega) (by omega) (by omega)] at f3
        rw [<- hAt.old (r := k) (c := j) (by omega) (by omega) (by omega) (by omega) (by omega)] at f4
        have HST := hid (fun w' (hu : Up wr w') => hst ▸ rstep_any (hMI.m.up hu) (hMI.q.up hu) hlt hil hlt hjl hn (by omega) hB HQ.out.1 HQ.out.2.1 f1 f2 f3 f4)
        have HSet := hid (hAt.set hki hkj)
        obtain ⟨z, hz⟩ : ∃ z, nxt q M (i - (k + 1)) (j - (k + 1)) = z := ⟨_, rfl⟩
        rw [hz] at HST HSet
        have HMI := hid hMI
        clear hz hst f1 f2 f3 f4 hAt hMI hEB hCi hBB
        go_wp2_with fail
        refine wp_region_sp (n := 70) 12 [50, 51, 52, 53, 54, 55, 56, 57, 58, 59, 60, 61] [SP.is (.slice (some ⟨gA, 0, none⟩) n cA), SP.is (.int .i64 (i : Nat)), SP.is (.pointer (some ⟨gA, i, none⟩)), SP.is (.slice (some ⟨G i, 0, none⟩) n ci), SP.is (.int .i64 (j : Nat)), SP.is (.slice (some ⟨gA, 0, none⟩) n cA), SP.is (.int .i64 (k : Nat)), SP.is (.int .i64 (i : Nat)), SP.is (.int .i64 (j : Nat)), SP.is (.agg #[.bool b0, .slice p0 n0 c0]), SP.of (fun v w1 => Big w1 v z) (fun _ _ _ h hu => h.up hu), SP.is (.pointer (some ⟨G i, j * 2, none⟩)), SP.any] (fun wq => Up wr wq) (by kernel_rfl) (by rfl) (by kernel_rfl) (by kernel_rfl) (fun _ _ h hu => (h).trans hu) (by first | exact Up.refl _ | assumption) (fun ev w9 hS9 i o hne hi hev => ?_) (fun gR wE hq hSE huE => ?_)
        ·have hS1 := hS9
         have hcC := hev.const
         have hcF := hev.func
         have hcG := hev.global
         rcases i with _ | _ | _ | _ | _ | _ | _ | _ | _ | _ | _ | _ | _ | i
         ·obtain rfl := oI hi
          have e0 := hev.other 0 (by kernel_rfl)
          simp [Act.eval] at e0
          exact lV (.slice (some ⟨gA, 0, none⟩) n cA)
         ·obtain rfl := oI hi
          have e6 := hev.other 6 (by kernel_rfl)
          simp [Act.eval] at e6
          exact lV (.int .i64 (i : Nat))
         ·obtain rfl := oI hi
          have e50 : ev (.tmp 50) = (.slice (some ⟨gA, 0, none⟩) n cA) := hev.dep 0 50 (by kernel_rfl)
          have e51 : ev (.tmp 51) = (.int .i64 (i : Nat)) := hev.dep 1 51 (by kernel_rfl)
          exact lV (.pointer (some ⟨gA, i, none⟩))
         ·obtain rfl := oI hi
          have e52 : ev (.tmp 52) = (.pointer (some ⟨gA, i, none⟩)) := hev.dep 2 52 (by kernel_rfl)
          have hcx := HCi.out w9 hS1; exact leavesR_value (u := .slice (some ⟨G i, 0, none⟩) n ci) (by go_simp) rfl
         ·obtain rfl := oI hi
          have e7 := hev.other 7 (by kernel_rfl)
          simp [Act.eval] at e7
          exact lV (.int .i64 (j : Nat))
         ·obtain rfl := oI hi
          have e0 := hev.other 0 (by kernel_rfl)
          simp [Act.eval] at e0
          exact lV (.slice (some ⟨gA, 0, none⟩) n cA)
         ·obtain rfl := oI hi
          have e5 := hev.other 5 (by kernel_rfl)
          simp [Act.eval] at e5
          exact lV (.int .i64 (k : Nat))
         ·obtain rfl := oI hi
          have e6 := hev.other 6 (by kernel_rfl)
          simp [Act.eval] at e6
          exact lV (.int .i64 (i : Nat))
         ·obtain rfl := oI hi
          have e7 := hev.other 7 (by kernel_rfl)
          simp [Act.eval] at e7
          exact lV (.int .i64 (j : Nat))
         ·obtain rfl := oI hi
          have e3 := hev.other 3 (by kernel_rfl)
          simp [Act.eval] at e3
          exact leavesR_value (run_ldBR rfl (by go_simp) (HMI.out.p.up hS1) rfl) rfl
         ·obtain rfl := oI hi
          have e55 : ev (.tmp 55) = (.slice (some ⟨gA, 0, none⟩) n cA) := hev.dep 5 55 (by kernel_rfl)
          have e56 : ev (.tmp 56) = (.int .i64 (k : Nat)) := hev.dep 6 56 (by kernel_rfl)
          have e57 : ev (.tmp 57) = (.int .i64 (i : Nat)) := hev.dep 7 57 (by kernel_rfl)
          have e58 : ev (.tmp 58) = (.int .i64 (j : Nat)) := hev.dep 8 58 (by kernel_rfl)
          have e59 : ev (.tmp 59) = (.agg #[.bool b0, .slice p0 n0 c0]) := hev.dep 9 59 (by kernel_rfl)
          refine leavesR_call ?_ (HST.out _ hS1)
          go_simp
         ·obtain rfl := oI hi
          have e53 : ev (.tmp 53) = (.slice (some ⟨G i, 0, none⟩) n ci) := hev.dep 3 53 (by kernel_rfl)
          have e54 : ev (.tmp 54) = (.int .i64 (j : Nat)) := hev.dep 4 54 (by kernel_rfl)
          exact lV (.pointer (some ⟨G i, j * 2, none⟩))
         ·exact absurd rfl hne
         ·exact absurd (show i + 13 < 13 from (Array.getElem?_eq_some_iff.1 hi).1) (by omega)
        have hS1 := hSE
        have q0 : gR 50 = (.slice (some ⟨gA, 0, none⟩) n cA) := hq 0 50 (by decide) (by kernel_rfl)
        have q1 : gR 51 = (.int .i64 (i : Nat)) := hq 1 51 (by decide) (by kernel_rfl)
        have q2 : gR 52 = (.pointer (some ⟨gA, i, none⟩)) := hq 2 52 (by decide) (by kernel_rfl)
        have q3 : gR 53 = (.slice (some ⟨G i, 0, none⟩) n ci) := hq 3 53 (by decide) (by kernel_rfl)
        have q4 : gR 54 = (.int .i64 (j : Nat)) := hq 4 54 (by decide) (by kernel_rfl)
        have q5 : gR 55 = (.slice (some ⟨gA, 0, none⟩) n cA) := hq 5 55 (by decide) (by kernel_rfl)
        have q6 : gR 56 = (.int .i64 (k : Nat)) := hq 6 56 (by decide) (by kernel_rfl)
        have q7 : gR 57 = (.int .i64 (i : Nat)) := hq 7 57 (by decide) (by kernel_rfl)
        have q8 : gR 58 = (.int .i64 (j : Nat)) := hq 8 58 (by decide) (by kernel_rfl)
        have q9 : gR 59 = (.agg #[.bool b0, .slice p0 n0 c0]) := hq 9 59 (by decide) (by kernel_rfl)
        have q10 : (fun v w1 => Big w1 v z) (gR 60) wE := hq 10 60 (by decide) (by kernel_rfl)
        dsimp only at q10
        obtain ⟨v60, hv60⟩ : ∃ v, gR 60 = v := ⟨_, rfl⟩
        rw [hv60] at q10
        have q11 : gR 61 = (.pointer (some ⟨G i, j * 2, none⟩)) := hq 11 61 (by decide) (by kernel_rfl)
        refine ⟨fun h => absurd h (by decide), fun o ho => ?_⟩
        obtain rfl := oI ho
        simp only [putL, List.map_cons, List.map_nil, q0, q1, q2, q3, q4, q5, q6, q7, q8, q9, hv60, q11, Act.put, pu1, pu2, pu3]
        clear hq hSE q0 q1 q2 q3 q4 q5 q6 q7 q8 q9 q11
        obtain ⟨yb, ya, yn, yc, rfl⟩ := q10.shape
        have hset := MI.set (HMI.out.up hS1 HB0.out) hil hjl HG.out (Nat.lt_succ_self _) (hBi.up hS1) q10
        refine wp_stB2 _ _ rfl rfl rfl (hBi.up hS1) (by omega) ?_
        obtain ⟨wK, hwK⟩ : ∃ y, wE.setRow (G i) (splB Ci (j * 2) [.bool yb, .slice ya yn yc]) = y := ⟨_, rfl⟩
        rw [hwK] at hset ⊢
        clear hwK hS1 huE q10 HST hBi HCi HMI
        go_wp2_with fail
        go_roundg (n - (j + 1))
        case measure => omega
        case rel => exact ⟨j + 1, _, by omega, hjl, Nat.le_refl _, rfl, HSet.out, hset⟩
       ·obtain rfl : j = n := by omega
        have HR2 := hid hAt.row
        have HMI := hid hMI
        clear hAt hMI
        go_wp2_with fail
        go_roundg (j - (i + 1))
        case measure => omega
        case rel => exact ⟨i + 1, V2, by omega, hil, Nat.le_refl _, rfl, HR2.out, HMI.out⟩
     ·obtain rfl : i = n := by omega
      have HLn := hid (show Left i (k + 1) (nxt q M) V1 from HAt.out.all)
      have h00 : V1 k k = m0 := by rw [HAt.out.old (r := k) (c := k) (by omega) (by omega) (by omega) (by omega) (by omega), Nat.sub_self, HM0.out]
      obtain ⟨gB, cB, CB, hvB, -, -, hBB, hEB⟩ := HMI.out.m.open (by omega)
      injection hvB with x1 _ x3
      injection x1 with x1
      injection x1 with x1
      subst x1 x3
      obtain ⟨ck8, hCk8⟩ := hEB k hlt
      have hcx := hBB.cell k hCk8
      obtain ⟨Ck8, bk8, ak8, nk8, dk8, hBk8, -, h1, h2, hbig8⟩ := HMI.out.m.entry hlt hlt
      have HRk8 := hid (fun w' (hB : Blk w' (G k) 59 Ck8) => bigAt_range hB h1 h2)
      rw [h00] at hbig8
      clear h00 h1 h2 hEB hCk8 hBB HAt
      go_wp2_with (first
       | ((with_reducible apply ldB2_P); exact rfl; exact rfl; exact HRk8.out _ hBk8)
       | ((with_reducible apply stB_P); exact rfl; exact rfl; exact HMI.out.p; exact rfl; exact rfl; exact one2 _ _ _ _
          refine wpL_folded (fun wd => MI w base bP (bP + 1) i (.slice (some ⟨gA, 0, none⟩) i cA) G bk8 ak8 nk8 dk8 m0 (.slice p6 LL.length c6) LL V1 wd) (HMI.out.prev HG.out (Nat.lt_succ_self _) HbP.out hbig8) ?_
          rintro w9 h9))
      go_roundg (i - (k + 1))
      case measure => omega
      case rel => exact ⟨k + 1, V1, bk8, ak8, nk8, dk8, LL, hlt, Nat.le_refl _, rfl, HP3.out, by rw [HN2.out]; exact HLn.out, by rw [HN1.out, HN2.out, show i - (k + 1) = s by omega]; exact HD3.out, HL3.out, by rw [HN1.out]; exact h9⟩
   ·have ds : decide (sgn m0 <= 0) = true := by unfold sgn; rw [decide_eq_true]; split <;> (try split) <;> omega
    have hT : LL = T := by have h := HD2.out; rw [if_neg hp, List.append_nil] at h; exact h
    subst hT
    clear HD2
    go_wp2_with (first
     | ((with_reducible apply ldB2_P); exact rfl; exact rfl; exact HRk6.out _ hBk6)
     | (go_at_call 52; (with_reducible refine (HSg.out _ _ hbig6).mono ?_); rintro r w7 ⟨rfl, hu7⟩))
    go_ret
    exact ⟨_, rfl, hu7.below H6.out.u (Nat.le_trans HB0.out H6.out.u.size), (H6.out.l.up hu7).bv⟩
  ·obtain rfl : k = n := by omega
   have hT : L = T := by have h := HDone.out; rw [Nat.sub_self] at h; rw [<- h]; show L = L ++ []; rw [List.append_nil]
   subst hT
   clear HDone HR HLeft HPos
   go_wp2_with fail
   go_ret
   exact ⟨_, rfl, HMI.out.u, HMI.out.l.bv⟩
theorem all_last {s : Nat} {V : Nat -> Nat -> Int} (hl : (mins (s + 1) 1 V).length = s + 1) : ((mins (s + 1) 1 V).all fun x => decide (0 < x)) = decide (0 < zth (mins (s + 1) 1 V) s) := by
 have h := mins_all (s + 1) 1 V
 rw [Bool.eq_iff_iff, List.all_eq_true, decide_eq_true_iff]
 simp only [decide_eq_true_iff]
 rw [h]
 unfold zth
 constructor
 ·rintro (h | ⟨_, h⟩)
  ·omega
  ·exact h
 ·exact fun h => .inr ⟨hl, h⟩
theorem all_short {s : Nat} {V : Nat -> Nat -> Int} (hl : (mins (s + 1) 1 V).length ≠ s + 1) : ((mins (s + 1) 1 V).all fun x => decide (0 < x)) = false := by
 rw [Bool.eq_false_iff, Ne, List.all_eq_true]
 simp only [decide_eq_true_iff]
 rw [mins_all (s + 1) 1 V]
 rintro (h | ⟨h, _⟩)
 ·omega
 ·exact hl h
theorem sgn_gt (z : Int) : decide (0 < sgn z) = decide (0 < z) := by
 unfold sgn
 rw [Bool.eq_iff_iff, decide_eq_true_iff, decide_eq_true_iff]
 split <;> (try split) <;> omega
theorem RE_AM {n : Nat} (l : List Int) : ∀ i j, i < n -> j < n -> RE n l 1 0 i j = AM n l i j := fun i j hi hj => by
 unfold RE
 rw [AM_at hi hj, Int.one_mul, ite_self, Int.add_zero]
set_option maxHeartbeats 4000000 in
theorem rdefinite_any {w : World} {base n B : Nat} {av : Value} {G : Nat -> Nat} {V : Nat -> Nat -> Int} (h : OwnM w base av n n G V) (hn : n <= 8) (hB : B <= 100) (hR : Run B n V) (hb : base <= w.heap.size) :
   Calls Tryz.prog 31 #[av] w fun r w' => r = .returned (.bool ((mins n 1 V).all fun x => decide (0 < x))) /\ Below base w w' := by
 have HMn := hid (rminors_any h hn hB hR hb)
 obtain ⟨pA, cA, rfl⟩ := h.slice
 have HB0 := hid hb
 clear h hR hb hB
 rcases n with _ | s
 ·rw [show ((mins 0 1 V).all fun x => decide (0 < x)) = true from rfl]
  obtain ⟨T, hT⟩ : ∃ T, mins 0 1 V = T := ⟨_, rfl⟩
  rw [hT] at HMn
  clear hT
  go_enter Tryz.func31, Tryz.ntmps31
  go_wp2_with (first
   | (go_at_call 51; (with_reducible refine HMn.out.mono ?_); rintro r w2 ⟨z2, rfl, hB2, hz2⟩; obtain ⟨p2, c2, rfl⟩ := hz2.slice))
  go_ret
  exact ⟨rfl, hB2⟩
 ·have dn : ((s : Int) + 1 == 0) = false := by simp; omega
  by_cases hl : (mins (s + 1) 1 V).length = s + 1
  ·rw [all_last hl]
   have HL := hid hl
   obtain ⟨T, hT⟩ : ∃ T, mins (s + 1) 1 V = T := ⟨_, rfl⟩
   rw [hT] at HMn HL ⊢
   obtain ⟨z, hz⟩ : ∃ z, zth T s = z := ⟨_, rfl⟩
   have HZ := hid hz
   rw [hz, <- sgn_gt]
   have HSg := hid (fun w v (h : Big w v z) => rsign_big h)
   have ei : IntKind.i64.wrap (((s + 1 : Nat) : Int) - 1) = (s : Int) := by rw [show (((s + 1 : Nat) : Int) - 1) = s by omega]; exact IntWalk.i64_in _ (by omega)
   clear hT hl hz
   go_enter Tryz.func31, Tryz.ntmps31
   go_upto_region 2 with (first
    | (go_at_call 51; (with_reducible refine HMn.out.mono ?_); rintro r w2 ⟨z2, rfl, hB2, hz2⟩))
   obtain ⟨g, cap, C, rfl, hcp, hBC, hE⟩ := hz2.open (by rw [HL.out]; omega)
   obtain ⟨b, a, m, c, h1, h2, h3⟩ := hE s (by rw [HL.out]; omega)
   rw [HZ.out] at h3
   have HRk := hid (fun w' (hB : Blk w' g 59 C) => bigAt_range hB h1 h2)
   clear hE h1 h2
   rw [HL.out]
   rw [HL.out] at hcp
   go_wp2_with (first
    | ((with_reducible apply ldB2_P); exact rfl; exact rfl; exact HRk.out _ hBC)
    | (go_at_call 52; (with_reducible refine (HSg.out _ _ h3).mono ?_); rintro r w7 ⟨rfl, hu7⟩))
   go_ret
   exact ⟨rfl, hu7.below hB2 (Nat.le_trans HB0.out hB2.size)⟩
  ·rw [all_short hl]
   have dl : (((mins (s + 1) 1 V).length : Int) == (s : Int) + 1) = false := by simp; omega
   obtain ⟨T, hT⟩ : ∃ T, mins (s + 1) 1 V = T := ⟨_, rfl⟩
   rw [hT] at HMn dl
   clear hT hl
   go_enter Tryz.func31, Tryz.ntmps31
   go_wp2_with (first
    | (go_at_call 51; (with_reducible refine HMn.out.mono ?_); rintro r w2 ⟨z2, rfl, hB2, hz2⟩; obtain ⟨p2, c2, rfl⟩ := hz2.slice))
   go_ret
   exact ⟨rfl, hB2⟩
theorem run_bd {n : Nat} {V : Nat -> Nat -> Int} (hn : n <= 8) (hV : ∀ i j, (V i j).natAbs <= bdM) : Run 9 n V := by
 have h : ∀ k, k < n -> (∀ j, j < k -> 0 < (gs V j).2 0 0) -> 0 < (gs V k).1 /\ (gs V k).1.natAbs < bp 9 /\ Good (gs V k).1 (fun r => bdB (r + k + 1)) (gs V k).2 := by
  intro k
  induction k with
  | zero =>
    intro _ _
    refine ⟨by show (0 : Int) < 1; decide, ?_, Good.start hV⟩
    have h1 := bp_mono (show 1 <= 9 by omega)
    rw [bp_succ 0, bp_zero] at h1
    show (1 : Nat) < bp 9
    omega
  | succ k ih =>
    intro hk hp
    obtain ⟨h1, h2, h3⟩ := ih (by omega) fun j hj => hp j (by omega)
    have h4 := hp k (by omega)
    refine ⟨h4, Nat.lt_of_le_of_lt (h3.entry 0 0) (bdB_bp (by omega)), ?_⟩
    have h5 := h3.next (Int.ne_of_gt h1) (Int.ne_of_gt h4)
    exact h5.mono fun r => by rw [show r + 1 + k + 1 = r + (k + 1) + 1 from by omega]; exact Nat.le_refl _
 exact fun k hk hp => ⟨(h k hk hp).1, (h k hk hp).2.1, fun i j => Nat.lt_of_le_of_lt ((h k hk hp).2.2.entry i j) (bdB_bp (by omega))⟩
theorem RE_fit {n : Nat} {l : List Int} (hR : rt n l = true) {i j : Nat} (hi : i < n) (hj : j < n) : (RE n l 1 0 i j).natAbs <= 1073741824 := by rw [RE_AM l i j hi hj]; exact AM_abs hR i j
def sbW (Y X : Nat -> Nat -> Int) (i j : Nat) : Nat -> Nat -> Int := fun r c => if r < i \/ (r = i /\ c < j) then Y r c - X r c else Y r c
theorem sbW_zero (Y X : Nat -> Nat -> Int) : sbW Y X 0 0 = Y := by
 funext r c
 unfold sbW
 rw [if_neg (by omega)]
theorem sbW_at (Y X : Nat -> Nat -> Int) (i j : Nat) : sbW Y X i j i j = Y i j := by
 unfold sbW
 rw [if_neg (by omega)]
theorem sbW_set (Y X : Nat -> Nat -> Int) (i j : Nat) : upd2 (sbW Y X i j) i j (Y i j - X i j) = sbW Y X i (j + 1) := by
 funext r c
 unfold upd2 sbW
 by_cases h : r = i /\ c = j
 ·obtain ⟨rfl, rfl⟩ := h
  rw [if_pos ⟨rfl, rfl⟩, if_pos (by omega)]
 ·rw [if_neg h]
  by_cases h2 : r < i \/ (r = i /\ c < j)
  ·rw [if_pos h2, if_pos (by omega)]
  ·rw [if_neg h2, if_neg (by omega)]
theorem sbW_row {n : Nat} (Y X : Nat -> Nat -> Int) (i : Nat) : ∀ r c, r < n -> c < n -> sbW Y X i n r c = sbW Y X (i + 1) 0 r c := fun r c _ hc => by
 unfold sbW
 by_cases h : r < i + 1
 ·rw [if_pos (by omega), if_pos (by omega)]
 ·rw [if_neg (by omega), if_neg (by omega)]
theorem sbW_be {n : Nat} (a b : List Int) : ∀ r c, r < n -> c < n -> sbW (RE n b 1 1) (RE n a 1 0) n 0 r c = beM n a b r c := fun r c hr hc => by
 have h1 := RE_AM a r c hr hc
 unfold sbW beM unitM
 rw [if_pos (by omega), h1]
 unfold RE
 rw [AM_at hr hc, AM_at hr hc]
 split <;> omega
theorem RE1_fit {n : Nat} {l : List Int} (hR : rt n l = true) {i j : Nat} (hi : i < n) (hj : j < n) : (RE n l 1 1 i j).natAbs <= 1073741825 := by
 have h := AM_abs hR i j
 rw [AM_at hi hj] at h
 unfold RE
 split <;> omega
theorem OwnM.base {w : World} {base n m : Nat} {v : Value} {G : Nat -> Nat} {V : Nat -> Nat -> Int} (h : OwnM w base v n m G V) : ∀ i, i < n -> base <= G i /\ G i < w.heap.size := fun i hi => by
 obtain ⟨_, _, _, h3, _⟩ := h
 exact ⟨(h3 i hi).1, (h3 i hi).2.lt⟩
theorem rows_call {v : Value} {n : Nat} {l : List Int} {w : World} {B : Nat} (hm : Sm w v n l) (hR : rt n l = true) {s k : Int} (hs : I64 s) (hk : I64 k) (hB : B <= w.heap.size) :
   Calls Tryz.prog 28 #[v, .int .i64 s, .int .i64 k] w (fun e w'' => Up w w'' /\ ∃ z, e = .returned z /\ (fun z w'' => ∃ b G, B <= b /\ b <= w''.heap.size /\ OwnM w'' b z n n G (RE n l s k)) z w'') :=
 (rows_any hm hR hs hk).mono fun _ _ ⟨z, b, G, h1, h2, h3, h4, h5⟩ => ⟨h2, z, h1, b, G, Nat.le_trans hB h3, h4, h5⟩
set_option maxHeartbeats 16000000 in
theorem rbelow_any {va vb : Value} {N K : Int} {a b : List Int} {w : World} (ha : Sm w va N a) (hb : Sm w vb K b) :
   Calls Tryz.prog 19 #[va, vb] w fun r w' => r = .returned (.bool (beV N a K b)) /\ Up w w' := by
 have HRa := hid (fun w' (hu : Up w w') => rright_any (ha.up hu))
 have HRb := hid (fun w' (hu : Up w w') => rright_any (hb.up hu))
 have HSa := hid ha
 have HSb := hid hb
 obtain ⟨sa, rfl, ⟨p, cap, rfl, -, -⟩, -, -, -⟩ := ha
 obtain ⟨sb, rfl, ⟨q, capq, rfl, -, -⟩, -, -, -⟩ := hb
 obtain ⟨W0, hW0⟩ : ∃ W0, (w.alloc (.cells #[.int .i64 N, .slice p a.length cap] 24)).alloc (.cells #[.int .i64 K, .slice q b.length capq] 24) = W0 := ⟨_, rfl⟩
 have hBa : Blk W0 w.heap.size 24 #[.int .i64 N, .slice p a.length cap] := by rw [<- hW0]; exact (Blk.new _ _ rfl).up (Up.alloc _ _)
 have hBb : Blk W0 (w.heap.size + 1) 24 #[.int .i64 K, .slice q b.length capq] := by rw [<- hW0]; exact Blk.new _ _ (by simp)
 have hU : Up w W0 := by rw [<- hW0]; exact (Up.alloc _ _).trans (Up.alloc _ _)
 cases hRa : rt N a with
 | false =>
   rw [hRa] at HRa
   rw [show beV N a K b = false from by unfold beV; rw [hRa, Bool.false_and]]
   clear hRa
   go_enter Tryz.func19, Tryz.ntmps19
   go_wp2_with (first
    | ((with_reducible apply ldM_P); exact rfl; exact rfl; exact hBa; exact rfl)
    | (go_at_call 27; (with_reducible refine (HRa.out _ hU).mono ?_); rintro r w1 ⟨rfl, hu1⟩))
   go_ret
   exact ⟨rfl, hU.trans hu1⟩
 | true =>
   rw [hRa] at HRa
   cases hRb : rt K b with
   | false =>
     rw [hRb] at HRb
     rw [show beV N a K b = false from by unfold beV; rw [hRb, Bool.false_and, Bool.and_false]]
     clear hRa hRb
     go_enter Tryz.func19, Tryz.ntmps19
     go_wp2_with (first
      | ((with_reducible apply ldM_P); exact rfl; exact rfl; (first | exact hBa | exact hBb | exact hBb1); exact rfl)
      | (go_at_call 27; first
         | ((with_reducible refine (HRa.out _ hU).mono ?_); rintro r w1 ⟨rfl, hu1⟩; have hBb1 := hBb.up hu1; have hU1 := hU.trans hu1)
         | ((with_reducible refine (HRb.out _ hU1).mono ?_); rintro r w2 ⟨rfl, hu2⟩)))
     go_ret
     exact ⟨rfl, hU1.trans hu2⟩
   | true =>
     rw [hRb] at HRb
     by_cases hNK : N = K
     ·subst hNK
      obtain ⟨n, rfl, n8⟩ := rt_ofN hRa
      obtain ⟨D, hD⟩ : ∃ D, beV n a n b = D := ⟨_, rfl⟩
      have hD2 : dfB n (beM n a b) = D := by rw [<- hD]; unfold beV; rw [hRa, hRb, Bool.true_and, Bool.true_and, decide_eq_true rfl, Bool.true_and]; rfl
      have i0 : I64 0 := by unfold I64; decide
      have HXa := hid (fun B w' (hu : Up w w') (hB : B <= w'.heap.size) => rows_call (HSa.out.up hu) hRa i64_one i0 hB)
      have HYb := hid (fun B w' (hu : Up w w') (hB : B <= w'.heap.size) => rows_call (HSb.out.up hu) hRb i64_one i64_one hB)
      have HDF := hid (fun w' b0 z G (hb : b0 <= w'.heap.size) (hO : OwnM w' b0 z n n G (sbW (RE n b 1 1) (RE n a 1 0) n 0)) => show Calls Tryz.prog 31 #[z] w' fun r w'' => r = .returned (.bool D) /\ Below b0 w' w'' from hD2 ▸ rdefinite_any (hO.congr (sbW_be a b)) n8 (show 9 <= 100 by decide) (run_bd n8 (beM_abs hRa hRb)) hb)
      have HFx := hid (fun i j (hi : i < n) (hj : j < n) => RE_fit hRa hi hj)
      have HFy := hid (fun i j (hi : i < n) (hj : j < n) => RE1_fit hRb hi hj)
      rw [hD]
      clear hRa hRb HSa HSb hD hD2 i0
      obtain ⟨X, hX⟩ : ∃ X, RE n a 1 0 = X := ⟨_, rfl⟩
      obtain ⟨Y, hY⟩ : ∃ Y, RE n b 1 1 = Y := ⟨_, rfl⟩
      rw [hX] at HXa HDF HFx
      rw [hY] at HYb HDF HFy
      clear hX hY
      go_enter Tryz.func19, Tryz.ntmps19
      go_wp2_with (first
       | ((with_reducible apply ldM_P); exact rfl; exact rfl; (first | exact hBa | exact hBb1 | exact hBb2); exact rfl)
       | (go_at_call 27; first
          | ((with_reducible refine (HRa.out _ hU).mono ?_); rintro r w1 ⟨rfl, hu1⟩; have hBb1 := hBb.up hu1; have hBa1 := hBa.up hu1; have hU1 := hU.trans hu1)
          | ((with_reducible refine (HRb.out _ hU1).mono ?_); rintro r w2 ⟨rfl, hu2⟩; have hBb2 := hBb1.up hu2; have hBa2 := hBa1.up hu2; have hU2 := hU1.trans hu2; have hc0 := hBa2.cell 0 rfl; have hc1 := hBb2.cell 0 rfl)))
      try simp only [Act.put]
      obtain ⟨b0, hb0⟩ : ∃ y, w.heap.size = y := ⟨_, rfl⟩
      rw [hb0] at hBa2 hBb2 ⊢
      clear hW0 hBa hBb hBb1 hBa1 hU hU1 hu1 hu2 hc0 hc1
      refine opU (S := (fun wq => Blk wq b0 24 #[.int .i64 (n : Int), .slice p a.length cap] /\ Blk wq (b0 + 1) 24 #[.int .i64 (n : Int), .slice q b.length capq] /\ Up w wq /\ Below w.heap.size w wq)) (req := (fun _ => true)) (fun _ _ h hu => ⟨(h.1).up hu, (h.2.1).up hu, (h.2.2.1).trans hu, below_up (h.2.2.2) hu⟩) ⟨gBlk, gBlk, (by first | exact Up.refl _ | assumption), gUp⟩ (fun wS hSS hSu => ?_)
      have ⟨hS1, hS2, hS3, hSB⟩ := hSS
      refine tkT 0 (some 24) rfl hSu hSS ?_ (hy := fun w' hSw => run_ldM rfl rfl hSw.1 rfl)
      refine tkT 2 (some 26) rfl hSu hSS ?_ (hy := fun w' hSw => run_ldM rfl rfl hSw.2.1 rfl)
      refine wpAnyU_callE (i := 1) (d := (some 25)) rfl rfl (by kernel_rfl) (by rfl) hSu.out (fun w' => by go_simp) (fun w' hw' => (HXa.out (b0 + 1) w' (hS3.trans hw') (Nat.le_trans hS1.lt hw'.size))) fun vX wX hwX hRX => ?_
      try simp only [Act.put, pu1, pu2, pu3]
      replace hSS := hSu.out _ _ hSS hwX
      have hwX2 := hS3.trans hwX
      refine wpAnyU_callE (i := 3) (d := (some 27)) rfl rfl (by kernel_rfl) (by rfl) hSu.out (fun w' => by go_simp) (fun w' hw' => (HYb.out wX.heap.size w' (hwX2.trans hw') hw'.size)) fun vY wY hwY hRY => ?_
      try simp only [Act.put, pu1, pu2, pu3]
      replace hSS := hSu.out _ _ hSS hwY
      refine tkP 4 (some 5) hSu ?_
      refine tkP 5 (some 6) hSu ?_
      refine wpAnyU_done (by kernel_rfl) (fun wF huE => ?_) _
      obtain ⟨bX, GX, hbX, hbX2, hOX⟩ := hRX
      obtain ⟨bY, GY, hbY, hbY2, hOY⟩ := hRY
      have hGX := fun i hi => (hOX.base i hi).2
      have hXF := hOX.up (hwY.trans huE)
      have hYF := hOY.up huE
      have hUF := (hwX2.trans hwY).trans huE
      have hBF := (hSS.1).up huE
      have hzF : bY <= wF.heap.size := Nat.le_trans hbY2 huE.size
      have hwb : w.heap.size <= bY := by have := hwX2.size; omega
      have hbb : b0 < bY := by omega
      have HGx := hid (fun i (hi : i < n) => show GX i < bY from Nat.lt_of_lt_of_le (hGX i hi) hbY)
      obtain ⟨wJ, hwJ⟩ : ∃ y, wF = y := ⟨_, rfl⟩
      rw [hwJ] at hXF hYF hUF hBF hzF ⊢
      rw [<- sbW_zero Y X] at hYF
      obtain ⟨pX, cX, rfl⟩ := hOX.slice
      obtain ⟨pY, cY, rfl⟩ := hOY.slice
      clear hwJ hb0 hOX hOY hGX hbX hbX2 hbY hbY2 hwX hwY huE hwX2 hS1 hS2 hS3 hSB hSS hBa2 hBb2 hU2
      go_wp2_with fail
      go_loopg [7] n (fun g ti wr => ∃ i : Nat, i <= n /\ n - i <= g /\ ti = .int .i64 (i : Nat) /\ OwnM wr bY (.slice pY n cY) n n GY (sbW Y X i 0) /\ OwnM wr bX (.slice pX n cX) n n GX X /\ Below bY wJ wr)
      case atStart => exact ⟨0, Nat.zero_le _, by omega, rfl, hYF, hXF, Below.refl _ _⟩
      case round =>
       clear hYF hXF
       obtain ⟨i, hi, hig, rfl, hO, hXO, hu⟩ := hrel
       have hBr := Blk.below hBF hu hbb
       have hc0 := hBr.cell 0 rfl
       have hbs : bY <= wr.heap.size := Nat.le_trans hzF hu.size
       by_cases hlt : i < n
       ·have e1 : IntKind.i64.wrap ((i : Int) + 1) = (i : Int) + 1 := IntWalk.i64_in _ (by omega)
        go_wp2_with fail
        clear hBr hbs
        go_loopg [8] n (fun g tj wr => ∃ j : Nat, j <= n /\ n - j <= g /\ tj = .int .i64 (j : Nat) /\ OwnM wr bY (.slice pY n cY) n n GY (sbW Y X i j) /\ OwnM wr bX (.slice pX n cX) n n GX X /\ Below bY wJ wr)
        case atStart => exact ⟨0, Nat.zero_le _, by omega, rfl, hO, hXO, hu⟩
        case round =>
         clear hO hXO hu hc0
         obtain ⟨j, hj, hjg, rfl, hO, hXO, hu⟩ := hrel
         have hBr := Blk.below hBF hu hbb
         have hc0 := hBr.cell 0 rfl
         have hbs : bY <= wr.heap.size := Nat.le_trans hzF hu.size
         by_cases hjl : j < n
         ·have e2 : IntKind.i64.wrap ((j : Int) + 1) = (j : Int) + 1 := IntWalk.i64_in _ (by omega)
          obtain ⟨gA, cA', CA, hvA, hgA, hcA, hBA, hEA⟩ := hO.open (by omega)
          injection hvA with x1 _ x3
          subst x1 x3
          obtain ⟨ci, hCi⟩ := hEA i hlt
          have HCi := hid (fun w' (hu : Up wr w') => (hBA.up hu).cell i hCi)
          obtain ⟨gZ, cZ', CZ, hvZ, hgZ, hcZ, hBZ, hEZ⟩ := hXO.open (by omega)
          injection hvZ with y1 _ y3
          subst y1 y3
          obtain ⟨cz, hCz⟩ := hEZ i hlt
          have HCz := hid (fun w' (hu : Up wr w') => (hBZ.up hu).cell i hCz)
          obtain ⟨Ci, bi, ai, ni, di, hBi, hsz, h1, h2, hbig⟩ := hO.entry hlt hjl
          have HRk := hid (fun w' (hB : Blk w' (GY i) 59 Ci) => bigAt_range hB h1 h2)
          obtain ⟨Ck, bk, ak, nk, dk, hBk, -, h3, h4, hbigX⟩ := hXO.entry hlt hjl
          have HRz := hid (fun w' (hB : Blk w' (GX i) 59 Ck) => bigAt_range hB h3 h4)
          have hGi := (hO.base i hlt).1
          have HSet := hid (sbW_set Y X i j)
          rw [sbW_at] at hbig
          have hy := HFy.out i j hlt hjl
          have hx := HFx.out i j hlt hjl
          have HSu := hid (fun w' va vb (ha : Big w' va (Y i j)) (hb : Big w' vb (X i j)) => sub_big ha hb (nl_bp (k := 1) (by decide) (Nat.lt_of_le_of_lt hy (by rw [bp_succ, bp_zero]; decide))) (nl_bp (k := 1) (by decide) (Nat.lt_of_le_of_lt hx (by rw [bp_succ, bp_zero]; decide))))
          have HO := hid hO
          have HXO := hid hXO
          have HNe := hid (fun r (hr : r < n) => show GX r ≠ GY i from by have := HGx.out r hr; omega)
          generalize Y i j = y at *
          generalize X i j = x at *
          clear hEA hCi h1 h2 h3 h4 hcA hcZ hEZ hCz hx hy hO hXO
          go_wp2_with fail
          refine wp_region_sp (n := 63) 21 [40, 41, 42, 43, 44, 45, 46, 47, 48, 49, 50, 51, 52, 53, 54, 55, 56, 57, 58, 59, 60] [SP.is (.slice (some ⟨gA, 0, none⟩) n cY), SP.is (.int .i64 (i : Nat)), SP.is (.pointer (some ⟨gA, i, none⟩)), SP.is (.slice (some ⟨GY i, 0, none⟩) n ci), SP.is (.int .i64 (j : Nat)), SP.is (.slice (some ⟨gA, 0, none⟩) n cY), SP.is (.int .i64 (i : Nat)), SP.is (.pointer (some ⟨gA, i, none⟩)), SP.is (.slice (some ⟨GY i, 0, none⟩) n ci), SP.is (.int .i64 (j : Nat)), SP.is (.pointer (some ⟨GY i, j * 2, none⟩)), SP.is (.agg #[.bool bi, .slice ai ni di]), SP.is (.slice (some ⟨gZ, 0, none⟩) n cX), SP.is (.int .i64 (i : Nat)), SP.is (.pointer (some ⟨gZ, i, none⟩)), SP.is (.slice (some ⟨GX i, 0, none⟩) n cz), SP.is (.int .i64 (j : Nat)), SP.is (.pointer (some ⟨GX i, j * 2, none⟩)), SP.is (.agg #[.bool bk, .slice ak nk dk]), SP.of (fun v w1 => Big w1 v (y - x)) (fun _ _ _ h hu => h.up hu), SP.is (.pointer (some ⟨GY i, j * 2, none⟩)), SP.any] (fun wq => Up wr wq) (by kernel_rfl) (by rfl) (by kernel_rfl) (by kernel_rfl) (fun _ _ h hu => (h).trans hu) (by first | exact Up.refl _ | assumption) (fun ev w9 hS9 i o hne hi hev => ?_) (fun gR wE hq hSE huE => ?_)
          ·have hS1 := hS9
           have hcC := hev.const
           have hcF := hev.func
           have hcG := hev.global
           rcases i with _ | _ | _ | _ | _ | _ | _ | _ | _ | _ | _ | _ | _ | _ | _ | _ | _ | _ | _ | _ | _ | _ | i
           ·obtain rfl := oI hi
            have e6 := hev.other 6 (by kernel_rfl)
            simp [Act.eval] at e6
            exact lV (.slice (some ⟨gA, 0, none⟩) n cY)
           ·obtain rfl := oI hi
            have e7 := hev.other 7 (by kernel_rfl)
            simp [Act.eval] at e7
            exact lV (.int .i64 (i : Nat))
           ·obtain rfl := oI hi
            have e40 : ev (.tmp 40) = (.slice (some ⟨gA, 0, none⟩) n cY) := hev.dep 0 40 (by kernel_rfl)
            have e41 : ev (.tmp 41) = (.int .i64 (i : Nat)) := hev.dep 1 41 (by kernel_rfl)
            exact lV (.pointer (some ⟨gA, i, none⟩))
           ·obtain rfl := oI hi
            have e42 : ev (.tmp 42) = (.pointer (some ⟨gA, i, none⟩)) := hev.dep 2 42 (by kernel_rfl)
            have hcx := HCi.out w9 hS1; exact leavesR_value (u := .slice (some ⟨GY i, 0, none⟩) n ci) (by go_simp) rfl
           ·obtain rfl := oI hi
            have e8 := hev.other 8 (by kernel_rfl)
            simp [Act.eval] at e8
            exact lV (.int .i64 (j : Nat))
           ·obtain rfl := oI hi
            have e6 := hev.other 6 (by kernel_rfl)
            simp [Act.eval] at e6
            exact lV (.slice (some ⟨gA, 0, none⟩) n cY)
           ·obtain rfl := oI hi
            have e7 := hev.other 7 (by kernel_rfl)
            simp [Act.eval] at e7
            exact lV (.int .i64 (i : Nat))
           ·obtain rfl := oI hi
            have e45 : ev (.tmp 45) = (.slice (some ⟨gA, 0, none⟩) n cY) := hev.dep 5 45 (by kernel_rfl)
            have e46 : ev (.tmp 46) = (.int .i64 (i : Nat)) := hev.dep 6 46 (by kernel_rfl)
            exact lV (.pointer (some ⟨gA, i, none⟩))
           ·obtain rfl := oI hi
            have e47 : ev (.tmp 47) = (.pointer (some ⟨gA, i, none⟩)) := hev.dep 7 47 (by kernel_rfl)
            have hcx := HCi.out w9 hS1; exact leavesR_value (u := .slice (some ⟨GY i, 0, none⟩) n ci) (by go_simp) rfl
           ·obtain rfl := oI hi
            have e8 := hev.other 8 (by kernel_rfl)
            simp [Act.eval] at e8
            exact lV (.int .i64 (j : Nat))
           ·obtain rfl := oI hi
            have e48 : ev (.tmp 48) = (.slice (some ⟨GY i, 0, none⟩) n ci) := hev.dep 8 48 (by kernel_rfl)
            have e49 : ev (.tmp 49) = (.int .i64 (j : Nat)) := hev.dep 9 49 (by kernel_rfl)
            exact lV (.pointer (some ⟨GY i, j * 2, none⟩))
           ·obtain rfl := oI hi
            have e50 : ev (.tmp 50) = (.pointer (some ⟨GY i, j * 2, none⟩)) := hev.dep 10 50 (by kernel_rfl)
            exact leavesR_value (run_ldB2 rfl e50 (HRk.out _ (hBi.up hS1))) rfl
           ·obtain rfl := oI hi
            have e5 := hev.other 5 (by kernel_rfl)
            simp [Act.eval] at e5
            exact lV (.slice (some ⟨gZ, 0, none⟩) n cX)
           ·obtain rfl := oI hi
            have e7 := hev.other 7 (by kernel_rfl)
            simp [Act.eval] at e7
            exact lV (.int .i64 (i : Nat))
           ·obtain rfl := oI hi
            have e52 : ev (.tmp 52) = (.slice (some ⟨gZ, 0, none⟩) n cX) := hev.dep 12 52 (by kernel_rfl)
            have e53 : ev (.tmp 53) = (.int .i64 (i : Nat)) := hev.dep 13 53 (by kernel_rfl)
            exact lV (.pointer (some ⟨gZ, i, none⟩))
           ·obtain rfl := oI hi
            have e54 : ev (.tmp 54) = (.pointer (some ⟨gZ, i, none⟩)) := hev.dep 14 54 (by kernel_rfl)
            have hcx := HCz.out w9 hS1; exact leavesR_value (u := .slice (some ⟨GX i, 0, none⟩) n cz) (by go_simp) rfl
           ·obtain rfl := oI hi
            have e8 := hev.other 8 (by kernel_rfl)
            simp [Act.eval] at e8
            exact lV (.int .i64 (j : Nat))
           ·obtain rfl := oI hi
            have e55 : ev (.tmp 55) = (.slice (some ⟨GX i, 0, none⟩) n cz) := hev.dep 15 55 (by kernel_rfl)
            have e56 : ev (.tmp 56) = (.int .i64 (j : Nat)) := hev.dep 16 56 (by kernel_rfl)
            exact lV (.pointer (some ⟨GX i, j * 2, none⟩))
           ·obtain rfl := oI hi
            have e57 : ev (.tmp 57) = (.pointer (some ⟨GX i, j * 2, none⟩)) := hev.dep 17 57 (by kernel_rfl)
            exact leavesR_value (run_ldB2 rfl e57 (HRz.out _ (hBk.up hS1))) rfl
           ·obtain rfl := oI hi
            have e51 : ev (.tmp 51) = (.agg #[.bool bi, .slice ai ni di]) := hev.dep 11 51 (by kernel_rfl)
            have e58 : ev (.tmp 58) = (.agg #[.bool bk, .slice ak nk dk]) := hev.dep 18 58 (by kernel_rfl)
            refine leavesR_call ?_ (HSu.out _ _ _ (e51 ▸ hbig.up hS1) (e58 ▸ hbigX.up hS1))
            go_simp
           ·obtain rfl := oI hi
            have e43 : ev (.tmp 43) = (.slice (some ⟨GY i, 0, none⟩) n ci) := hev.dep 3 43 (by kernel_rfl)
            have e44 : ev (.tmp 44) = (.int .i64 (j : Nat)) := hev.dep 4 44 (by kernel_rfl)
            exact lV (.pointer (some ⟨GY i, j * 2, none⟩))
           ·exact absurd rfl hne
           ·exact absurd (show i + 22 < 22 from (Array.getElem?_eq_some_iff.1 hi).1) (by omega)
          have hS1 := hSE
          have q0 : gR 40 = (.slice (some ⟨gA, 0, none⟩) n cY) := hq 0 40 (by decide) (by kernel_rfl)
          have q1 : gR 41 = (.int .i64 (i : Nat)) := hq 1 41 (by decide) (by kernel_rfl)
          have q2 : gR 42 = (.pointer (some ⟨gA, i, none⟩)) := hq 2 42 (by decide) (by kernel_rfl)
          have q3 : gR 43 = (.slice (some ⟨GY i, 0, none⟩) n ci) := hq 3 43 (by decide) (by kernel_rfl)
          have q4 : gR 44 = (.int .i64 (j : Nat)) := hq 4 44 (by decide) (by kernel_rfl)
          have q5 : gR 45 = (.slice (some ⟨gA, 0, none⟩) n cY) := hq 5 45 (by decide) (by kernel_rfl)
          have q6 : gR 46 = (.int .i64 (i : Nat)) := hq 6 46 (by decide) (by kernel_rfl)
          have q7 : gR 47 = (.pointer (some ⟨gA, i, none⟩)) := hq 7 47 (by decide) (by kernel_rfl)
          have q8 : gR 48 = (.slice (some ⟨GY i, 0, none⟩) n ci) := hq 8 48 (by decide) (by kernel_rfl)
          have q9 : gR 49 = (.int .i64 (j : Nat)) := hq 9 49 (by decide) (by kernel_rfl)
          have q10 : gR 50 = (.pointer (some ⟨GY i, j * 2, none⟩)) := hq 10 50 (by decide) (by kernel_rfl)
          have q11 : gR 51 = (.agg #[.bool bi, .slice ai ni di]) := hq 11 51 (by decide) (by kernel_rfl)
          have q12 : gR 52 = (.slice (some ⟨gZ, 0, none⟩) n cX) := hq 12 52 (by decide) (by kernel_rfl)
          have q13 : gR 53 = (.int .i64 (i : Nat)) := hq 13 53 (by decide) (by kernel_rfl)
          have q14 : gR 54 = (.pointer (some ⟨gZ, i, none⟩)) := hq 14 54 (by decide) (by kernel_rfl)
          have q15 : gR 55 = (.slice (some ⟨GX i, 0, none⟩) n cz) := hq 15 55 (by decide) (by kernel_rfl)
          have q16 : gR 56 = (.int .i64 (j : Nat)) := hq 16 56 (by decide) (by kernel_rfl)
          have q17 : gR 57 = (.pointer (some ⟨GX i, j * 2, none⟩)) := hq 17 57 (by decide) (by kernel_rfl)
          have q18 : gR 58 = (.agg #[.bool bk, .slice ak nk dk]) := hq 18 58 (by decide) (by kernel_rfl)
          have q19 : (fun v w1 => Big w1 v (y - x)) (gR 59) wE := hq 19 59 (by decide) (by kernel_rfl)
          dsimp only at q19
          obtain ⟨v59, hv59⟩ : ∃ v, gR 59 = v := ⟨_, rfl⟩
          rw [hv59] at q19
          have q20 : gR 60 = (.pointer (some ⟨GY i, j * 2, none⟩)) := hq 20 60 (by decide) (by kernel_rfl)
          refine ⟨fun h => absurd h (by decide), fun o ho => ?_⟩
          obtain rfl := oI ho
          simp only [putL, List.map_cons, List.map_nil, q0, q1, q2, q3, q4, q5, q6, q7, q8, q9, q10, q11, q12, q13, q14, q15, q16, q17, q18, hv59, q20, Act.put, pu1, pu2, pu3]
          clear hq hSE q0 q1 q2 q3 q4 q5 q6 q7 q8 q9 q10 q11 q12 q13 q14 q15 q16 q17 q18 q20
          obtain ⟨yb, ya, yn, yc, rfl⟩ := q19.shape
          have hset := OwnM.set (HO.out.up hS1) hlt hjl (hBi.up hS1) q19
          rw [HSet.out] at hset
          have hXs := (HXO.out.up hS1).otherB (hBi.up hS1) (splB Ci (j * 2) [.bool yb, .slice ya yn yc]) HNe.out
          have hbe := below_setRow (Below.trans hu (Below.mono hS1 hbs)) hGi (splB Ci (j * 2) [.bool yb, .slice ya yn yc])
          refine wp_stB2 _ _ rfl rfl rfl (hBi.up hS1) (by omega) ?_
          obtain ⟨wK, hwK⟩ : ∃ y, wE.setRow (GY i) (splB Ci (j * 2) [.bool yb, .slice ya yn yc]) = y := ⟨_, rfl⟩
          rw [hwK] at hset hbe hXs ⊢
          clear hwK hS1 huE q19 HSu hBi hBk HCi HCz HO HXO hc0 hBr hu hbig hbigX
          go_wp2_with fail
          go_roundg (n - (j + 1))
          case measure => omega
          case rel => exact ⟨j + 1, hjl, Nat.le_refl _, rfl, hset.1, hXs, hbe⟩
         ·obtain rfl : j = n := by omega
          have HR := hid (hO.congr (sbW_row Y X i))
          have HXR := hid hXO
          have HUR := hid hu
          clear hO hXO hu
          go_wp2_with fail
          go_roundg (j - (i + 1))
          case measure => omega
          case rel => exact ⟨i + 1, hlt, Nat.le_refl _, rfl, HR.out, HXR.out, HUR.out⟩
       ·obtain rfl : i = n := by omega
        go_wp2_with (first
         | (go_at_call 31; (with_reducible refine (HDF.out _ _ _ _ hbs hO).mono ?_); rintro r w3 ⟨rfl, hB3⟩))
        go_ret
        exact ⟨rfl, Below.trans hUF (Below.mono (Below.trans hu hB3) hwb)⟩
     ·rw [show beV N a K b = false from by unfold beV; rw [decide_eq_false hNK, Bool.false_and, Bool.and_false, Bool.and_false]]
      have hNe : (N != K) = true := by simpa using hNK
      have hd : (N == K) = false := by simpa using hNK
      clear hRa hRb
      go_enter Tryz.func19, Tryz.ntmps19
      go_wp2_with (first
       | ((with_reducible apply ldM_P); exact rfl; exact rfl; (first | exact hBa | exact hBb1); exact rfl)
       | (go_at_call 27; first
          | ((with_reducible refine (HRa.out _ hU).mono ?_); rintro r w1 ⟨rfl, hu1⟩; have hBb1 := hBb.up hu1; have hBa1 := hBa.up hu1; have hU1 := hU.trans hu1)
          | ((with_reducible refine (HRb.out _ hU1).mono ?_); rintro r w2 ⟨rfl, hu2⟩; have hc0 := (hBa1.up hu2).cell 0 rfl; have hc1 := (hBb1.up hu2).cell 0 rfl)))
      go_ret
      exact ⟨rfl, hU1.trans hu2⟩
theorem ouC_zero {N : Int} {l : List Int} {x : Int} {h : List Int} (h0 : ouC N l x h = 0) : rt N l = true /\ (h.length : Int) = N /\ (ouL N.toNat l x h).all fit = true := by
 unfold ouC at h0
 cases hr : rt N l with
 | false => rw [hr] at h0; simp at h0
 | true =>
   rw [hr, Bool.true_and] at h0
   by_cases hn : (h.length : Int) = N
   ·rw [decide_eq_true hn] at h0
    cases hf : (ouL N.toNat l x h).all fit with
    | true => exact ⟨rfl, hn, rfl⟩
    | false => rw [hf] at h0; simp at h0
   ·rw [decide_eq_false hn] at h0; simp at h0
def KInv (b : Nat) (s : Value) (n : Nat) (w : World) : Prop := ∃ l, OwnI w b s l /\ l.length = n /\ In64 l
theorem in64_set {l : List Int} (h : In64 l) (k : Nat) {z : Int} (hz : I64 z) : In64 (l.set k z) := by
 intro i hi
 rw [List.length_set] at hi
 have e : zth (l.set k z) i = if k = i then z else zth l i := by
  rw [zth_get (by rw [List.length_set]; exact hi), List.getElem_set]
  split
  ·rfl
  ·rw [zth_get hi]
 rw [e]
 split
 ·exact hz
 ·exact h i hi
def MV (w : World) (v : Value) : Prop := ∃ N L, SmO w v N L
def Pair (a0 : Int) (s0 : Value) (w : World) (v : Value) : Prop :=
 ∃ g N1 s1 L1, v = .slice (some ⟨g, 0, none⟩) 2 2 /\ Blk w g 24 #[.int .i64 a0, s0, .int .i64 N1, s1] /\ SmO w (.agg #[.int .i64 N1, s1]) N1 L1
def IsRowX (k : IntKind) (w : World) (a : Option Addr) (len cap : Nat) (zs : List Int) : Prop :=
 (a = none /\ len = 0 /\ cap = 0 /\ zs = []) \/
 ∃ x, a = some x /\ len <= cap /\ cap <= maxLen /\ zs.length = cap /\ (∀ i, i < zs.length -> w.cell? (x.add i) = some (.int k (zs.getD i 0))) /\ ∀ n ∈ zs, (Lit.int k n).wf = true
theorem zth_take {l : List Int} {k i : Nat} (h : i < k) : zth (l.take k) i = zth l i := by
 unfold zth
 rw [List.getD_eq_getElem?_getD, List.getD_eq_getElem?_getD, List.getElem?_take_of_lt h]
theorem wf_i64 {z : Int} (h : (Lit.int .i64 z).wf = true) : I64 z := by
 have := (Lit.wf_int_iff .i64 z).1 h
 rw [IntKind.min_i64, IntKind.max_i64] at this
 unfold I64; omega
theorem wf_nat {k : IntKind} {z : Int} {m : Nat} (h : (Lit.int k z).wf = true) (h0 : k.min = 0) (h1 : k.max = (m : Int)) : ∃ n : Nat, z = (n : Int) /\ n < m + 1 := by
 have := (Lit.wf_int_iff k z).1 h
 rw [h0, h1] at this
 exact ⟨z.toNat, by omega, by omega⟩
theorem vw_row {w : World} {a : Option Addr} {len cap : Nat} {zs : List Int} (h : IsRowX .i64 w a len cap zs) : Vw w (.slice a len cap) (zs.take len) /\ In64 (zs.take len) := by
 rcases h with ⟨rfl, rfl, rfl, rfl⟩ | ⟨x, rfl, hl, hm, hz, hc, hw⟩
 ·exact ⟨⟨none, 0, rfl, ⟨Nat.le_refl _, fun _ => rfl⟩, fun i hi => absurd hi (Nat.not_lt_zero _)⟩, fun i hi => absurd hi (Nat.not_lt_zero _)⟩
 ·have e : (zs.take len).length = len := by rw [List.length_take]; omega
  refine ⟨⟨some x, cap, by rw [e], ⟨by rw [e]; exact hl, fun e => by cases e⟩, fun i hi => ⟨x, rfl, ?_⟩⟩, fun i hi => ?_⟩
  ·rw [e] at hi
   rw [zth_take hi]
   exact hc i (by omega)
  ·rw [e] at hi
   rw [zth_take hi, zth_get (by omega)]
   exact wf_i64 (hw _ (List.getElem_mem _))
theorem vh_row {w : World} {a : Option Addr} {len cap : Nat} {zs : List Int} (h : IsRowX .i16 w a len cap zs) : Vh w (.slice a len cap) (zs.take len) /\ In16 (zs.take len) := by
 rcases h with ⟨rfl, rfl, rfl, rfl⟩ | ⟨x, rfl, hl, hm, hz, hc, hw⟩
 ·exact ⟨⟨none, 0, rfl, fun i hi => absurd hi (Nat.not_lt_zero _)⟩, fun i hi => absurd hi (Nat.not_lt_zero _)⟩
 ·have e : (zs.take len).length = len := by rw [List.length_take]; omega
  refine ⟨⟨some x, cap, by rw [e], fun i hi => ⟨x, rfl, ?_⟩⟩, fun i hi => ?_⟩
  ·rw [e] at hi
   rw [zth_take hi]
   exact hc i (by omega)
  ·rw [e] at hi
   rw [zth_take hi, zth_get (by omega)]
   have := (Lit.wf_int_iff .i16 _).1 (hw (zs[i]'(by omega)) (List.getElem_mem _))
   rw [IntKind.min_i16, IntKind.max_i16] at this
   omega
theorem rt_ou {n : Nat} {l h : List Int} {x : Int} (h0 : ouC n l x h = 0) : rt n l = true /\ rt n (ouL n l x h) = true := by
 obtain ⟨h1, _, h3⟩ := ouC_zero h0
 refine ⟨h1, rt_of h1 (ouL_len n l x h) ?_⟩
 exact h3
set_option maxHeartbeats 32000000 in
theorem bbelow_w {w : World} {a0 : Int} {p0 : Option Addr} {len0 cap0 : Nat} {l0 : List Int} {vh vv : Value} {hs lv : List Int} (n d x t : Nat) (v : Int) (hg : Glob w) (hraw : Vw w (.slice p0 len0 cap0) l0) (ha0 : I64 a0) (hl0 : In64 l0)
   (hn : n < 256) (hd : d < 65536) (hvh : Vh w vh hs) (h16 : In16 hs) (hvv : Vw w vv lv) (hIv : In64 lv) (hx : x < 256) (ht : t < 256) :
   Calls Tryz.prog 4 #[.agg #[.int .i64 a0, .slice p0 len0 cap0], .int .u8 (n : Nat), .int .u16 (d : Nat), vh, vv, .int .u8 (x : Nat), .int .u8 (t : Nat), .int .i64 v] w fun r w' => r = .returned (.bool true) /\ Up w w' := by
 have HK := hid (fun w' (hu : Up w w') => bknown_true (hg.up hu))
 have HVV := hid (fun w' (hu : Up w w') => Vw.up hu hvv)
 have hlen : len0 = l0.length := by
  obtain ⟨p, c, e, _⟩ := hraw
  injection e
 obtain ⟨ph, ch, rfl, hhc⟩ := hvh
 obtain ⟨pv, cv, rfl, -⟩ := hvv
 obtain ⟨W0, hW0⟩ : ∃ W0, w.alloc (.cells #[.int .i64 a0, .slice p0 len0 cap0] 24) = W0 := ⟨_, rfl⟩
 have hB : Blk W0 w.heap.size 24 #[.int .i64 a0, .slice p0 len0 cap0] := by rw [<- hW0]; exact Blk.new _ _ rfl
 have hU : Up w W0 := by rw [<- hW0]; exact Up.alloc _ _
 by_cases hA : len0 <= 60
 ·have d1 : decide ((60 : Int) < (len0 : Int)) = false := decide_eq_false (by omega)
  by_cases hC : hs.length <= 60
  ·have d2 : decide ((60 : Int) < (hs.length : Int)) = false := decide_eq_false (by omega)
   by_cases hDv : lv.length <= 40
   ·have d3 : decide ((40 : Int) < (lv.length : Int)) = false := decide_eq_false (by omega)
    have HSm := hid (show Sm w (.agg #[.int .i64 a0, .slice p0 len0 cap0]) a0 l0 from ⟨_, rfl, hraw, ha0, hl0, by omega⟩)
    have HST := hid (fun w' (hu : Up w w') => seat_any n d hn hd (show Vh w' (.slice ph hs.length ch) hs from ⟨ph, ch, rfl, fun i hi => by obtain ⟨a, h1, h2⟩ := hhc i hi; exact ⟨a, h1, hu.cellEq h2⟩⟩) h16 hC)
    clear hraw ha0 hl0 hhc h16 hg hlen hn hd
    have HIV := hid hIv
    have HLV := hid hDv
    clear hIv hDv
    go_enter Tryz.func4, Tryz.ntmps4
    go_upto_region 6 with (first
     | ((with_reducible apply ldM_P); exact rfl; exact rfl; exact hB; exact rfl)
     | (go_at_call 6; (with_reducible refine (HK.out _ hU).mono ?_); rintro r w1 ⟨rfl, hu1⟩; have hB1 := hB.up hu1; have hU1 := hU.trans hu1; have hc1 := hB1.cell 1 rfl)
     | (go_at_call 7; (with_reducible refine (HST.out _ hU1).mono ?_); rintro r w2 ⟨z, N, L, rfl, hu2, hs2, hR⟩; obtain ⟨m0, m8, -, -⟩ := rt_spec hR; obtain ⟨m, rfl⟩ : ∃ m : Nat, N = (m : Int) := ⟨N.toNat, by omega⟩; have hs2' := hs2; obtain ⟨s, base, rfl, hO2, hr2⟩ := hs2'; obtain ⟨p2, n2, c2, rfl⟩ := OwnI.slice hO2)
     | ((with_reducible apply stM_P); exact rfl; exact rfl; exact Blk.new _ _ rfl; exact rfl; exact rfl; exact two2 _ _ _ _ _
        refine wpL_folded (fun wd => Up w2 wd /\ Blk wd w2.heap.size 24 #[.int .i64 (m : Int), .slice p2 n2 c2] /\ SmO wd (.agg #[.int .i64 (m : Int), .slice p2 n2 c2]) m L) ⟨gUp, gBlk, (hs2.up (Up.alloc _ _)).setRow (Blk.new _ _ rfl)⟩ ?_
        rintro w3 ⟨hu3, hb3, hs3⟩))
    have hU3 := hU1.trans (hu2.trans hu3)
    have hB3 := hB1.up (hu2.trans hu3)
    have HM8 := hid (show m <= 8 by omega)
    obtain ⟨bS, hbS⟩ : ∃ y, w2.heap.size = y := ⟨_, rfl⟩
    obtain ⟨bR, hbR⟩ : ∃ y, w.heap.size = y := ⟨_, rfl⟩
    rw [hbS] at hb3 ⊢
    rw [hbR] at hB3 ⊢
    have HS3 := hid hs3.sm
    have HR := hid hR
    clear hu1 hu2 hu3 hs2 hO2 hB hU hU1 hB1 hW0 hc1 hbS hbR hs3 hR hr2 m0 m8 HST HK d1 d2 d3
    try simp only [Act.put]
    go_upto_region 7 with (first
     | ((with_reducible apply ldM_P); exact rfl; exact rfl; exact hb3; exact rfl)
     | (go_at_call 15; (with_reducible refine (vec_any m true rfl HM8.out (HVV.out _ hU3) HIV.out (by have := HLV.out; omega)).mono ?_); rintro r w4 ⟨z4, b4, rfl, hu4, hb4, hO4⟩; obtain ⟨p4, c4, rfl, -, -⟩ := hO4.vw; rw [vecL_len]))
    have hK4 : KInv b4 (.slice p4 m c4) m w4 := ⟨_, by rw [vecL_len] at hO4; exact hO4, vecL_len _ _ _, vecL_in HIV.out true m (by have := HM8.out; omega)⟩
    clear hO4 HVV HIV HLV
    go_wp2_with fail
    go_loopg [19] m (fun g ta wr => ∃ a : Nat, a <= m /\ m - a <= g /\ ta = .int .i64 (a : Nat) /\ KInv b4 (.slice p4 m c4) m wr /\ Up w3 wr)
    case atStart => exact ⟨0, Nat.zero_le _, by omega, rfl, hK4, hu4⟩
    case round =>
     clear hK4 hu4
     obtain ⟨a, ha, hag, rfl, ⟨K, hO, hKl, hKI⟩, hu⟩ := hrel
     by_cases hlt : a < m
     ·obtain ⟨g, cp, C, hv, hbg, -⟩ := hO.open (by omega)
      injection hv with x1 x2 x3
      subst x1 x3
      obtain ⟨hcA, hfA⟩ := hO.cells (k := a) (by omega)
      have hO7 := hO.set (k := a) (by omega) ((zth K a).tmod 500)
      have hu7 := hu.setCell (p := ⟨g, a, none⟩) (show w3.heap.size <= g by omega) (.int .i64 ((zth K a).tmod 500))
      have hI7 := in64_set hKI a (z := (zth K a).tmod 500) (by have := tmod_bound (zth K a) (m := 500) (by decide); unfold I64; omega)
      have HF := hid (show KInv b4 (.slice (some ⟨g, 0, none⟩) m c4) m _ from ⟨_, hO7, by rw [List.length_set]; exact hKl, hI7⟩)
      have e1 : IntKind.i64.wrap ((a : Int) + 1) = (a : Int) + 1 := IntWalk.i64_in _ (by have := HM8.out; omega)
      clear hO7 hI7 x2
      generalize zth K a = z at *
      go_wp2_with fail
      go_roundg (m - (a + 1))
      case measure => omega
      case rel => exact ⟨a + 1, by omega, Nat.le_refl _, rfl, HF.out, hu7⟩
     ·obtain rfl : a = m := by omega
      have hbSr := hb3.up hu
      have hBr := hB3.up hu
      have HSr := hid (HS3.out.up hu)
      have hUr := hU3.trans hu
      have HRr := hid (HSm.out.up hUr)
      have ex : IntKind.i64.wrap (x : Int) = (x : Int) := IntWalk.i64_in _ (by omega)
      have HOU := hid (router_any (x : Int) HSr.out hO.vw (by unfold I64; omega) hKI (by have := HM8.out; omega))
      have HU := hid hUr
      clear hlt hag hO hu hU3 hb3 hB3 HS3
      by_cases h0 : ouC (a : Int) L (x : Int) K = 0
      ·have e1 : ouN (a : Int) L (x : Int) K = a := by unfold ouN; rw [if_pos h0]
       have e2 : ouR (a : Int) L (x : Int) K = ouL a L x K := by unfold ouR; rw [if_pos h0]; rfl
       rw [h0, e1, e2] at HOU
       obtain ⟨hr1, hr2⟩ := rt_ou (n := a) h0
       have HBE := hid (beV_ou hr1 hr2 (by omega : (0 : Int) <= (x : Int)))
       obtain ⟨LT, hLT⟩ : ∃ y, ouL a L x K = y := ⟨_, rfl⟩
       rw [hLT] at HOU HBE hr2
       have HRT := hid hr2
       clear hLT e1 e2 h0 hr1 hr2
       go_upto_region 12 with (first
        | ((with_reducible apply ldM_P); exact rfl; exact rfl; exact hbSr; exact rfl)
        | (go_at_call 16; (with_reducible refine HOU.out.mono ?_); rintro r w6 ⟨z6, rfl, hu6, hs6⟩; have hs6' := hs6; obtain ⟨s6, base6, rfl, hO6, -⟩ := hs6'; obtain ⟨p6, n6, c6, rfl⟩ := OwnI.slice hO6)
        | ((with_reducible apply stM_P); exact rfl; exact rfl; exact Blk.new _ _ rfl; exact rfl; exact rfl; exact two2 _ _ _ _ _
           refine wpL_folded (fun wd => Up w6 wd /\ Blk wd w6.heap.size 24 #[.int .i64 (a : Int), .slice p6 n6 c6] /\ SmO wd (.agg #[.int .i64 (a : Int), .slice p6 n6 c6]) a LT) ⟨gUp, gBlk, (hs6.up (Up.alloc _ _)).setRow (Blk.new _ _ rfl)⟩ ?_
           rintro w7 ⟨hu7, hbT, hsT⟩))
       have hx7 := hu6.trans hu7
       obtain ⟨bT, hbTe⟩ : ∃ y, w6.heap.size = y := ⟨_, rfl⟩
       rw [hbTe] at hbT ⊢
       have hbS7 := hbSr.up hx7
       have hbR7 := hBr.up hx7
       have HS7 := hid (HSr.out.up hx7)
       have HR7 := hid (HRr.out.up hx7)
       have HT7 := hid hsT.sm
       have hTl : LT.length = triN a := by have := (rt_spec HRT.out).2.2.1; rw [tri_nat] at this; omega
       have HU7 := hid (HU.out.trans hx7)
       have HI7 := hid (show In64 LT /\ LT.length <= 1000 from by obtain ⟨_, _, _, _, _, h1, h2⟩ := hsT; exact ⟨h1, h2⟩)
       have HT64 := hid (fun (i : Nat) (h : i < LT.length) => HI7.out.1 i h)
       have HCP := hid (copy_any HT7.out)
       clear hs6 hO6 hu6 hu7 hx7 hbTe hsT HSr HRr HOU hUr hbSr hBr hTl HRT
       go_upto_region 15 with (first
        | ((with_reducible apply ldM_P); exact rfl; exact rfl; exact hbT; exact rfl)
        | (go_at_call 17; (with_reducible refine HCP.out.mono ?_); rintro r w8 ⟨s8, rfl, hu8, hO8⟩; obtain ⟨p8, n8, c8, rfl⟩ := OwnI.slice hO8)
        | ((with_reducible apply stM_P); exact rfl; exact rfl; exact Blk.new _ _ rfl; exact rfl; exact rfl; exact two2 _ _ _ _ _
           refine wpL_folded (fun wd => Up w8 wd /\ Blk wd w8.heap.size 24 #[.int .i64 (a : Int), .slice p8 n8 c8] /\ OwnI wd w7.heap.size (.slice p8 n8 c8) LT) ⟨gUp, gBlk, (OwnI.up (Up.alloc _ _) hO8).setRow (Blk.new _ _ rfl)⟩ ?_
           rintro wG ⟨huG, hbU, hOU⟩))
       have hxG := hu8.trans huG
       have hzU := hu8.size
       obtain ⟨bU, hbUe⟩ : ∃ y, w8.heap.size = y := ⟨_, rfl⟩
       rw [hbUe] at hbU ⊢
       obtain rfl : n8 = LT.length := by
        obtain ⟨p, c, e, _⟩ := OwnI.vw hOU
        injection e
       have hcU := hbU.cell 1 rfl
       have HUn := hid (fun (g : Nat) (c : Nat) (h : p8 = some ⟨g, 0, none⟩) => show g < w8.heap.size \/ LT.length = 0 from by
        rcases Nat.eq_zero_or_pos LT.length with h0 | h0
        ·exact .inr h0
        ·obtain ⟨g', _, C, e, _, hBg, _⟩ := hO8.open h0
         injection e with e1
         rw [h] at e1
         injection e1 with e1
         injection e1 with e1
         rw [e1]
         exact .inl hBg.lt)
       rw [hbUe] at HUn
       clear hO8 hu8 huG hbUe HCP
       try simp only [Act.put]
       go_upto_if 75 with fail
       go_cut [] (fun wc => ∃ UL, Blk wc bU 24 #[.int .i64 (a : Int), .slice p8 LT.length c8] /\ Sm wc (.agg #[.int .i64 (a : Int), .slice p8 LT.length c8]) a UL /\ Up w7 wc)
       case first =>
        by_cases hz : 0 < LT.length
        ·have dz : decide (0 < LT.length) = true := decide_eq_true hz
         obtain ⟨g, cp, C, hv8, hbg, hBg, -⟩ := hOU.open hz
         injection hv8 with x1 x2 x3
         subst x1 x3
         have hgU : g < bU := by
          rcases HUn.out g c8 rfl with h | h
          ·exact h
          ·omega
         obtain ⟨q, hq⟩ : ∃ q, t % LT.length = q := ⟨_, rfl⟩
         have hql : q < LT.length := by rw [<- hq]; exact Nat.mod_lt _ hz
         have et : (t : Int).tmod (LT.length : Int) = (q : Int) := by rw [<- Int.ofNat_tmod, hq]
         have ec : IntKind.i64.wrap (t : Int) = (t : Int) := IntWalk.i64_in _ (by omega)
         have ez : ((LT.length : Int) == 0) = false := by rw [beq_eq_false_iff_ne]; omega
         have hne : ¬ LT = [] := by rintro rfl; exact absurd hz (Nat.lt_irrefl _)
         have hvb := tmod_bound v (m := 1073741825) (by decide)
         obtain ⟨v9, hv9⟩ : ∃ y, v.tmod 1073741825 = y := ⟨_, rfl⟩
         rw [hv9] at hvb
         have HV9 := hid (show I64 v9 from by unfold I64; omega)
         have HQ := hid hql
         have HGg := hid hbg
         have HGU := hid hgU
         clear hq hvb x2 hBg hbg hgU
         go_wp2_with fail
         refine wp_region_sp (n := 126) 11 [76, 77, 78, 79, 80, 81, 82, 83, 84, 85, 86] [SP.is (.pointer (some ⟨bU, 1, none⟩)), SP.is (.slice (some ⟨g, 0, none⟩) LT.length c8), SP.is (.int .u8 (t : Nat)), SP.is (.int .i64 (t : Nat)), SP.is (.pointer (some ⟨bU, 1, none⟩)), SP.is (.slice (some ⟨g, 0, none⟩) LT.length c8), SP.is (.int .i64 (LT.length : Nat)), SP.is (.int .i64 (q : Nat)), SP.is (.int .i64 v), SP.is (.int .i64 v9), SP.is (.pointer (some ⟨g, q, none⟩)), SP.any] (fun wq => Blk wq bU 24 #[.int .i64 (a : Int), .slice (some ⟨g, 0, none⟩) LT.length c8] /\ OwnI wq w7.heap.size (.slice (some ⟨g, 0, none⟩) LT.length c8) LT /\ Up w7 wq /\ Below w.heap.size w wq) (by kernel_rfl) (by rfl) (by kernel_rfl) (by kernel_rfl) (fun _ _ h hu => ⟨(h.1).up hu, (h.2.1).up hu, (h.2.2.1).trans hu, below_up (h.2.2.2) hu⟩) ⟨(by first | assumption | exact gBlk), (by assumption), (by first | exact Up.refl _ | assumption), gUp⟩ (fun ev w9 hS9 i o hne hi hev => ?_) (fun gR wE hq hSE huE => ?_)
         ·have ⟨hS1, hS2, hS3, hSB⟩ := hS9
          have hcC := hev.const
          have hcF := hev.func
          have hcG := hev.global
          rcases i with _ | _ | _ | _ | _ | _ | _ | _ | _ | _ | _ | _ | i
          ·obtain rfl := oI hi
           have e22 := hev.other 22 (by kernel_rfl)
           simp [Act.eval] at e22
           exact lV (.pointer (some ⟨bU, 1, none⟩))
          ·obtain rfl := oI hi
           have e76 : ev (.tmp 76) = (.pointer (some ⟨bU, 1, none⟩)) := hev.dep 0 76 (by kernel_rfl)
           have hcx := hS1.cell 1 rfl; exact leavesR_value (u := .slice (some ⟨g, 0, none⟩) LT.length c8) (by go_simp) rfl
          ·obtain rfl := oI hi
           have e6 := hev.other 6 (by kernel_rfl)
           simp [Act.eval] at e6
           exact lV (.int .u8 (t : Nat))
          ·obtain rfl := oI hi
           have e78 : ev (.tmp 78) = (.int .u8 (t : Nat)) := hev.dep 2 78 (by kernel_rfl)
           exact lV (.int .i64 (t : Nat))
          ·obtain rfl := oI hi
           have e22 := hev.other 22 (by kernel_rfl)
           simp [Act.eval] at e22
           exact lV (.pointer (some ⟨bU, 1, none⟩))
          ·obtain rfl := oI hi
           have e80 : ev (.tmp 80) = (.pointer (some ⟨bU, 1, none⟩)) := hev.dep 4 80 (by kernel_rfl)
           have hcx := hS1.cell 1 rfl; exact leavesR_value (u := .slice (some ⟨g, 0, none⟩) LT.length c8) (by go_simp) rfl
          ·obtain rfl := oI hi
           have e81 : ev (.tmp 81) = (.slice (some ⟨g, 0, none⟩) LT.length c8) := hev.dep 5 81 (by kernel_rfl)
           exact lV (.int .i64 (LT.length : Nat))
          ·obtain rfl := oI hi
           have e79 : ev (.tmp 79) = (.int .i64 (t : Nat)) := hev.dep 3 79 (by kernel_rfl)
           have e82 : ev (.tmp 82) = (.int .i64 (LT.length : Nat)) := hev.dep 6 82 (by kernel_rfl)
           exact lV (.int .i64 (q : Nat))
          ·obtain rfl := oI hi
           have e7 := hev.other 7 (by kernel_rfl)
           simp [Act.eval] at e7
           exact lV (.int .i64 v)
          ·obtain rfl := oI hi
           have e84 : ev (.tmp 84) = (.int .i64 v) := hev.dep 8 84 (by kernel_rfl)
           exact lV (.int .i64 v9)
          ·obtain rfl := oI hi
           have e77 : ev (.tmp 77) = (.slice (some ⟨g, 0, none⟩) LT.length c8) := hev.dep 1 77 (by kernel_rfl)
           have e83 : ev (.tmp 83) = (.int .i64 (q : Nat)) := hev.dep 7 83 (by kernel_rfl)
           have hk := HQ.out; exact leavesR_value (u := .pointer (some ⟨g, q, none⟩)) (by go_simp) rfl
          ·exact absurd rfl hne
          ·exact absurd (show i + 12 < 12 from (Array.getElem?_eq_some_iff.1 hi).1) (by omega)
         have ⟨hS1, hS2, hS3, hSB⟩ := hSE
         have q0 : gR 76 = (.pointer (some ⟨bU, 1, none⟩)) := hq 0 76 (by decide) (by kernel_rfl)
         have q1 : gR 77 = (.slice (some ⟨g, 0, none⟩) LT.length c8) := hq 1 77 (by decide) (by kernel_rfl)
         have q2 : gR 78 = (.int .u8 (t : Nat)) := hq 2 78 (by decide) (by kernel_rfl)
         have q3 : gR 79 = (.int .i64 (t : Nat)) := hq 3 79 (by decide) (by kernel_rfl)
         have q4 : gR 80 = (.pointer (some ⟨bU, 1, none⟩)) := hq 4 80 (by decide) (by kernel_rfl)
         have q5 : gR 81 = (.slice (some ⟨g, 0, none⟩) LT.length c8) := hq 5 81 (by decide) (by kernel_rfl)
         have q6 : gR 82 = (.int .i64 (LT.length : Nat)) := hq 6 82 (by decide) (by kernel_rfl)
         have q7 : gR 83 = (.int .i64 (q : Nat)) := hq 7 83 (by decide) (by kernel_rfl)
         have q8 : gR 84 = (.int .i64 v) := hq 8 84 (by decide) (by kernel_rfl)
         have q9 : gR 85 = (.int .i64 v9) := hq 9 85 (by decide) (by kernel_rfl)
         have q10 : gR 86 = (.pointer (some ⟨g, q, none⟩)) := hq 10 86 (by decide) (by kernel_rfl)
         refine ⟨fun h => absurd h (by decide), fun o ho => ?_⟩
         obtain rfl := oI ho
         simp only [putL, List.map_cons, List.map_nil, q0, q1, q2, q3, q4, q5, q6, q7, q8, q9, q10, Act.put, pu1, pu2, pu3]
         clear hq hSE q0 q1 q2 q3 q4 q5 q6 q7 q8 q9 q10
         obtain ⟨hcA, hfA⟩ := hS2.cells HQ.out
         have gbU := hS1.other ⟨g, q, none⟩ (.int .i64 v9) (by have := HGU.out; show _ ≠ g; omega)
         have gU := hS3.setCell (p := ⟨g, q, none⟩) HGg.out (.int .i64 v9)
         have gO := hS2.set HQ.out v9
         have gS : Sm _ (.agg #[.int .i64 (a : Int), .slice (some ⟨g, 0, none⟩) LT.length c8]) a (LT.set q v9) := OwnI.sm gO (by have := HM8.out; unfold I64; omega) (in64_set HI7.out.1 q HV9.out) (by rw [List.length_set]; exact HI7.out.2)
         go_simp
         clear hcA hfA hS1 hS2 hS3 hSB
         go_wp2_with fail
         go_meet
         exact ⟨_, gbU, gS, gU⟩
        ·have dz : decide (0 < LT.length) = false := decide_eq_false hz
         go_wp2_with fail
         go_meet
         exact ⟨LT, hbU, OwnI.sm hOU (by have := HM8.out; unfold I64; omega) HI7.out.1 HI7.out.2, hxG⟩
       case rest =>
        obtain ⟨UL, hbUc, hSU, hUc⟩ := hcut
        have hbSc := hbS7.up hUc
        have hbRc := hbR7.up hUc
        have hbTc := hbT.up hUc
        have HBE2 := hid HBE.out
        have HST := hid (fun w' (hu : Up wc w') => HBE2.out ▸ below_any (HS7.out.up (hUc.trans hu)) (HT7.out.up (hUc.trans hu)))
        have HSU := hid (fun w' (hu : Up wc w') => below_any (HS7.out.up (hUc.trans hu)) (hSU.up hu))
        have HSUr := hid (fun w' (hu : Up wc w') => rbelow_any (HS7.out.up (hUc.trans hu)) (hSU.up hu))
        have HUS := hid (fun w' (hu : Up wc w') => below_any (hSU.up hu) (HS7.out.up (hUc.trans hu)))
        have HUSr := hid (fun w' (hu : Up wc w') => rbelow_any (hSU.up hu) (HS7.out.up (hUc.trans hu)))
        have HRS := hid (fun w' (hu : Up wc w') => below_any (HR7.out.up (hUc.trans hu)) (HS7.out.up (hUc.trans hu)))
        have HRSr := hid (fun w' (hu : Up wc w') => rbelow_any (HR7.out.up (hUc.trans hu)) (HS7.out.up (hUc.trans hu)))
        have HSR := hid (fun w' (hu : Up wc w') => below_any (HS7.out.up (hUc.trans hu)) (HR7.out.up (hUc.trans hu)))
        have HSRr := hid (fun w' (hu : Up wc w') => rbelow_any (HS7.out.up (hUc.trans hu)) (HR7.out.up (hUc.trans hu)))
        have HU9 := hid (HU7.out.trans hUc)
        obtain ⟨A, hA9⟩ : ∃ y, beV (a : Int) L (a : Int) UL = y := ⟨_, rfl⟩
        obtain ⟨B, hB9⟩ : ∃ y, beV (a : Int) UL (a : Int) L = y := ⟨_, rfl⟩
        obtain ⟨C9, hC9⟩ : ∃ y, beV a0 l0 (a : Int) L = y := ⟨_, rfl⟩
        obtain ⟨E9, hE9⟩ : ∃ y, beV (a : Int) L a0 l0 = y := ⟨_, rfl⟩
        rw [hA9] at HSU HSUr
        rw [hB9] at HUS HUSr
        rw [hC9] at HRS HRSr
        rw [hE9] at HSR HSRr
        have dA : (A == A) = true := by simp
        have dB : (B == B) = true := by simp
        have dC : (C9 == C9) = true := by simp
        have dE : (E9 == E9) = true := by simp
        clear hA9 hB9 hC9 hE9 hSU HBE2 HBE hUc hbS7 hbR7 hbT hbU hOU hxG hcU HUn
        go_wp2_with fail
        refine wp_region_sg (n := 126) 40 [87, 88, 89, 90, 91, 92, 93, 94, 95, 96, 97, 98, 99, 100, 101, 102, 103, 104, 105, 106, 107, 108, 109, 110, 111, 112, 113, 114, 115, 116, 117, 118, 119, 120, 121, 122, 123, 124, 125, 16] [SG.is (.agg #[.int .i64 (a : Int), .slice p2 n2 c2]), SG.is (.agg #[.int .i64 (a : Int), .slice p6 n6 c6]), SG.is (.bool true), SG.tt true, SG.is (.agg #[.int .i64 (a : Int), .slice p2 n2 c2]), SG.is (.agg #[.int .i64 (a : Int), .slice p8 LT.length c8]), SG.is (.bool A), SG.is (.agg #[.int .i64 (a : Int), .slice p2 n2 c2]), SG.is (.agg #[.int .i64 (a : Int), .slice p8 LT.length c8]), SG.is (.bool A), SG.is (.bool true), SG.is (.bool true), SG.tt true, SG.is (.agg #[.int .i64 (a : Int), .slice p8 LT.length c8]), SG.is (.agg #[.int .i64 (a : Int), .slice p2 n2 c2]), SG.is (.bool B), SG.is (.agg #[.int .i64 (a : Int), .slice p8 LT.length c8]), SG.is (.agg #[.int .i64 (a : Int), .slice p2 n2 c2]), SG.is (.bool B), SG.is (.bool true), SG.is (.bool true), SG.tt true, SG.is (.agg #[.int .i64 a0, .slice p0 len0 cap0]), SG.is (.agg #[.int .i64 (a : Int), .slice p2 n2 c2]), SG.is (.bool C9), SG.is (.agg #[.int .i64 a0, .slice p0 len0 cap0]), SG.is (.agg #[.int .i64 (a : Int), .slice p2 n2 c2]), SG.is (.bool C9), SG.is (.bool true), SG.is (.bool true), SG.tt true, SG.is (.agg #[.int .i64 (a : Int), .slice p2 n2 c2]), SG.is (.agg #[.int .i64 a0, .slice p0 len0 cap0]), SG.is (.bool E9), SG.is (.agg #[.int .i64 (a : Int), .slice p2 n2 c2]), SG.is (.agg #[.int .i64 a0, .slice p0 len0 cap0]), SG.is (.bool E9), SG.is (.bool true), SG.is (.bool true), SG.is (.bool true)] (fun wq => Blk wq bS 24 #[.int .i64 (a : Int), .slice p2 n2 c2] /\ Blk wq bT 24 #[.int .i64 (a : Int), .slice p6 n6 c6] /\ Blk wq bU 24 #[.int .i64 (a : Int), .slice p8 LT.length c8] /\ Blk wq bR 24 #[.int .i64 a0, .slice p0 len0 cap0] /\ Up wc wq /\ Below w.heap.size w wq) (by kernel_rfl) (by rfl) (by kernel_rfl) (by kernel_rfl) (fun _ _ h hu => ⟨(h.1).up hu, (h.2.1).up hu, (h.2.2.1).up hu, (h.2.2.2.1).up hu, (h.2.2.2.2.1).trans hu, below_up (h.2.2.2.2.2) hu⟩) ⟨(by first | assumption | exact gBlk), (by first | assumption | exact gBlk), (by first | assumption | exact gBlk), (by first | assumption | exact gBlk), (by first | exact Up.refl _ | assumption), gUp⟩ (fun ev w9 hS9 i o hne hi hwt hev => ?_) (fun gR wE hq hSE huE => ?_)
        ·have ⟨hS1, hS2, hS3, hS4, hS5, hSB⟩ := hS9
         have hcC := hev.const
         have hcF := hev.func
         have hcG := hev.global
         rcases i with _ | _ | _ | _ | _ | _ | _ | _ | _ | _ | _ | _ | _ | _ | _ | _ | _ | _ | _ | _ | _ | _ | _ | _ | _ | _ | _ | _ | _ | _ | _ | _ | _ | _ | _ | _ | _ | _ | _ | _ | i
         ·obtain rfl := oI hi
          have e17 := hev.other 17 (by kernel_rfl)
          simp [Act.eval] at e17
          exact leavesR_value (run_ldME rfl (by go_simp) hS1 rfl) rfl
         ·obtain rfl := oI hi
          have e20 := hev.other 20 (by kernel_rfl)
          simp [Act.eval] at e20
          exact leavesR_value (run_ldME rfl (by go_simp) hS2 rfl) rfl
         ·obtain rfl := oI hi
          have e87 : ev (.tmp 87) = (.agg #[.int .i64 (a : Int), .slice p2 n2 c2]) := hev.dep 0 87 (by kernel_rfl)
          have e88 : ev (.tmp 88) = (.agg #[.int .i64 (a : Int), .slice p6 n6 c6]) := hev.dep 1 88 (by kernel_rfl)
          refine leavesR_call ?_ ((HST.out _ hS5).mono fun _ _ h => ⟨h.2, _, h.1, rfl⟩)
          go_simp
         ·obtain rfl := oI hi
          have e89 : ev (.tmp 89) = (.bool true) := hev.dep 2 89 (by kernel_rfl)
          exact lV (.bool true)
         ·obtain rfl := oI hi
          have e17 := hev.other 17 (by kernel_rfl)
          simp [Act.eval] at e17
          exact leavesR_value (run_ldME rfl (by go_simp) hS1 rfl) rfl
         ·obtain rfl := oI hi
          have e22 := hev.other 22 (by kernel_rfl)
          simp [Act.eval] at e22
          exact leavesR_value (run_ldME rfl (by go_simp) hS3 rfl) rfl
         ·obtain rfl := oI hi
          have e91 : ev (.tmp 91) = (.agg #[.int .i64 (a : Int), .slice p2 n2 c2]) := hev.dep 4 91 (by kernel_rfl)
          have e92 : ev (.tmp 92) = (.agg #[.int .i64 (a : Int), .slice p8 LT.length c8]) := hev.dep 5 92 (by kernel_rfl)
          refine leavesR_call ?_ ((HSU.out _ hS5).mono fun _ _ h => ⟨h.2, _, h.1, rfl⟩)
          go_simp
         ·obtain rfl := oI hi
          have e17 := hev.other 17 (by kernel_rfl)
          simp [Act.eval] at e17
          exact leavesR_value (run_ldME rfl (by go_simp) hS1 rfl) rfl
         ·obtain rfl := oI hi
          have e22 := hev.other 22 (by kernel_rfl)
          simp [Act.eval] at e22
          exact leavesR_value (run_ldME rfl (by go_simp) hS3 rfl) rfl
         ·obtain rfl := oI hi
          have e94 : ev (.tmp 94) = (.agg #[.int .i64 (a : Int), .slice p2 n2 c2]) := hev.dep 7 94 (by kernel_rfl)
          have e95 : ev (.tmp 95) = (.agg #[.int .i64 (a : Int), .slice p8 LT.length c8]) := hev.dep 8 95 (by kernel_rfl)
          refine leavesR_call ?_ ((HSUr.out _ hS5).mono fun _ _ h => ⟨h.2, _, h.1, rfl⟩)
          go_simp
         ·obtain rfl := oI hi
          have e93 : ev (.tmp 93) = (.bool A) := hev.dep 6 93 (by kernel_rfl)
          have e96 : ev (.tmp 96) = (.bool A) := hev.dep 9 96 (by kernel_rfl)
          exact lV (.bool true)
         ·obtain rfl := oI hi
          have e90 : ev (.tmp 90) = (.bool true) := hev.dep 3 90 (by kernel_rfl)
          have e97 : ev (.tmp 97) = (.bool true) := hev.dep 10 97 (by kernel_rfl)
          exact lV (.bool true)
         ·obtain rfl := oI hi
          have e98 : ev (.tmp 98) = (.bool true) := hev.dep 11 98 (by kernel_rfl)
          exact lV (.bool true)
         ·obtain rfl := oI hi
          have e22 := hev.other 22 (by kernel_rfl)
          simp [Act.eval] at e22
          exact leavesR_value (run_ldME rfl (by go_simp) hS3 rfl) rfl
         ·obtain rfl := oI hi
          have e17 := hev.other 17 (by kernel_rfl)
          simp [Act.eval] at e17
          exact leavesR_value (run_ldME rfl (by go_simp) hS1 rfl) rfl
         ·obtain rfl := oI hi
          have e100 : ev (.tmp 100) = (.agg #[.int .i64 (a : Int), .slice p8 LT.length c8]) := hev.dep 13 100 (by kernel_rfl)
          have e101 : ev (.tmp 101) = (.agg #[.int .i64 (a : Int), .slice p2 n2 c2]) := hev.dep 14 101 (by kernel_rfl)
          refine leavesR_call ?_ ((HUS.out _ hS5).mono fun _ _ h => ⟨h.2, _, h.1, rfl⟩)
          go_simp
         ·obtain rfl := oI hi
          have e22 := hev.other 22 (by kernel_rfl)
          simp [Act.eval] at e22
          exact leavesR_value (run_ldME rfl (by go_simp) hS3 rfl) rfl
         ·obtain rfl := oI hi
          have e17 := hev.other 17 (by kernel_rfl)
          simp [Act.eval] at e17
          exact leavesR_value (run_ldME rfl (by go_simp) hS1 rfl) rfl
         ·obtain rfl := oI hi
          have e103 : ev (.tmp 103) = (.agg #[.int .i64 (a : Int), .slice p8 LT.length c8]) := hev.dep 16 103 (by kernel_rfl)
          have e104 : ev (.tmp 104) = (.agg #[.int .i64 (a : Int), .slice p2 n2 c2]) := hev.dep 17 104 (by kernel_rfl)
          refine leavesR_call ?_ ((HUSr.out _ hS5).mono fun _ _ h => ⟨h.2, _, h.1, rfl⟩)
          go_simp
         ·obtain rfl := oI hi
          have e102 : ev (.tmp 102) = (.bool B) := hev.dep 15 102 (by kernel_rfl)
          have e105 : ev (.tmp 105) = (.bool B) := hev.dep 18 105 (by kernel_rfl)
          exact lV (.bool true)
         ·obtain rfl := oI hi
          have e99 : ev (.tmp 99) = (.bool true) := hev.dep 12 99 (by kernel_rfl)
          have e106 : ev (.tmp 106) = (.bool true) := hev.dep 19 106 (by kernel_rfl)
          exact lV (.bool true)
         ·obtain rfl := oI hi
          have e107 : ev (.tmp 107) = (.bool true) := hev.dep 20 107 (by kernel_rfl)
          exact lV (.bool true)
         ·obtain rfl := oI hi
          have e8 := hev.other 8 (by kernel_rfl)
          simp [Act.eval] at e8
          exact leavesR_value (run_ldME rfl (by go_simp) hS4 rfl) rfl
         ·obtain rfl := oI hi
          have e17 := hev.other 17 (by kernel_rfl)
          simp [Act.eval] at e17
          exact leavesR_value (run_ldME rfl (by go_simp) hS1 rfl) rfl
         ·obtain rfl := oI hi
          have e109 : ev (.tmp 109) = (.agg #[.int .i64 a0, .slice p0 len0 cap0]) := hev.dep 22 109 (by kernel_rfl)
          have e110 : ev (.tmp 110) = (.agg #[.int .i64 (a : Int), .slice p2 n2 c2]) := hev.dep 23 110 (by kernel_rfl)
          refine leavesR_call ?_ ((HRS.out _ hS5).mono fun _ _ h => ⟨h.2, _, h.1, rfl⟩)
          go_simp
         ·obtain rfl := oI hi
          have e8 := hev.other 8 (by kernel_rfl)
          simp [Act.eval] at e8
          exact leavesR_value (run_ldME rfl (by go_simp) hS4 rfl) rfl
         ·obtain rfl := oI hi
          have e17 := hev.other 17 (by kernel_rfl)
          simp [Act.eval] at e17
          exact leavesR_value (run_ldME rfl (by go_simp) hS1 rfl) rfl
         ·obtain rfl := oI hi
          have e112 : ev (.tmp 112) = (.agg #[.int .i64 a0, .slice p0 len0 cap0]) := hev.dep 25 112 (by kernel_rfl)
          have e113 : ev (.tmp 113) = (.agg #[.int .i64 (a : Int), .slice p2 n2 c2]) := hev.dep 26 113 (by kernel_rfl)
          refine leavesR_call ?_ ((HRSr.out _ hS5).mono fun _ _ h => ⟨h.2, _, h.1, rfl⟩)
          go_simp
         ·obtain rfl := oI hi
          have e111 : ev (.tmp 111) = (.bool C9) := hev.dep 24 111 (by kernel_rfl)
          have e114 : ev (.tmp 114) = (.bool C9) := hev.dep 27 114 (by kernel_rfl)
          exact lV (.bool true)
         ·obtain rfl := oI hi
          have e108 : ev (.tmp 108) = (.bool true) := hev.dep 21 108 (by kernel_rfl)
          have e115 : ev (.tmp 115) = (.bool true) := hev.dep 28 115 (by kernel_rfl)
          exact lV (.bool true)
         ·obtain rfl := oI hi
          have e116 : ev (.tmp 116) = (.bool true) := hev.dep 29 116 (by kernel_rfl)
          exact lV (.bool true)
         ·obtain rfl := oI hi
          have e17 := hev.other 17 (by kernel_rfl)
          simp [Act.eval] at e17
          exact leavesR_value (run_ldME rfl (by go_simp) hS1 rfl) rfl
         ·obtain rfl := oI hi
          have e8 := hev.other 8 (by kernel_rfl)
          simp [Act.eval] at e8
          exact leavesR_value (run_ldME rfl (by go_simp) hS4 rfl) rfl
         ·obtain rfl := oI hi
          have e118 : ev (.tmp 118) = (.agg #[.int .i64 (a : Int), .slice p2 n2 c2]) := hev.dep 31 118 (by kernel_rfl)
          have e119 : ev (.tmp 119) = (.agg #[.int .i64 a0, .slice p0 len0 cap0]) := hev.dep 32 119 (by kernel_rfl)
          refine leavesR_call ?_ ((HSR.out _ hS5).mono fun _ _ h => ⟨h.2, _, h.1, rfl⟩)
          go_simp
         ·obtain rfl := oI hi
          have e17 := hev.other 17 (by kernel_rfl)
          simp [Act.eval] at e17
          exact leavesR_value (run_ldME rfl (by go_simp) hS1 rfl) rfl
         ·obtain rfl := oI hi
          have e8 := hev.other 8 (by kernel_rfl)
          simp [Act.eval] at e8
          exact leavesR_value (run_ldME rfl (by go_simp) hS4 rfl) rfl
         ·obtain rfl := oI hi
          have e121 : ev (.tmp 121) = (.agg #[.int .i64 (a : Int), .slice p2 n2 c2]) := hev.dep 34 121 (by kernel_rfl)
          have e122 : ev (.tmp 122) = (.agg #[.int .i64 a0, .slice p0 len0 cap0]) := hev.dep 35 122 (by kernel_rfl)
          refine leavesR_call ?_ ((HSRr.out _ hS5).mono fun _ _ h => ⟨h.2, _, h.1, rfl⟩)
          go_simp
         ·obtain rfl := oI hi
          have e120 : ev (.tmp 120) = (.bool E9) := hev.dep 33 120 (by kernel_rfl)
          have e123 : ev (.tmp 123) = (.bool E9) := hev.dep 36 123 (by kernel_rfl)
          exact lV (.bool true)
         ·obtain rfl := oI hi
          have e117 : ev (.tmp 117) = (.bool true) := hev.dep 30 117 (by kernel_rfl)
          have e124 : ev (.tmp 124) = (.bool true) := hev.dep 37 124 (by kernel_rfl)
          exact lV (.bool true)
         ·obtain rfl := oI hi
          have e125 : ev (.tmp 125) = (.bool true) := hev.dep 38 125 (by kernel_rfl)
          exact lV (.bool true)
         ·exact absurd (show i + 40 < 40 from (Array.getElem?_eq_some_iff.1 hi).1) (by omega)
        have ⟨hS1, hS2, hS3, hS4, hS5, hSB⟩ := hSE
        have q0 : gR 87 = (.agg #[.int .i64 (a : Int), .slice p2 n2 c2]) := hq 0 87 (by decide) (by kernel_rfl)
        have q1 : gR 88 = (.agg #[.int .i64 (a : Int), .slice p6 n6 c6]) := hq 1 88 (by decide) (by kernel_rfl)
        have q2 : gR 89 = (.bool true) := hq 2 89 (by decide) (by kernel_rfl)
        have q3 : gR 90 = (.bool true) := hq 3 90 (by decide) (by kernel_rfl)
        have q4 : gR 91 = (.agg #[.int .i64 (a : Int), .slice p2 n2 c2]) := hq 4 91 (by decide) (by kernel_rfl)
        have q5 : gR 92 = (.agg #[.int .i64 (a : Int), .slice p8 LT.length c8]) := hq 5 92 (by decide) (by kernel_rfl)
        have q6 : gR 93 = (.bool A) := hq 6 93 (by decide) (by kernel_rfl)
        have q7 : gR 94 = (.agg #[.int .i64 (a : Int), .slice p2 n2 c2]) := hq 7 94 (by decide) (by kernel_rfl)
        have q8 : gR 95 = (.agg #[.int .i64 (a : Int), .slice p8 LT.length c8]) := hq 8 95 (by decide) (by kernel_rfl)
        have q9 : gR 96 = (.bool A) := hq 9 96 (by decide) (by kernel_rfl)
        have q10 : gR 97 = (.bool true) := hq 10 97 (by decide) (by kernel_rfl)
        have q11 : gR 98 = (.bool true) := hq 11 98 (by decide) (by kernel_rfl)
        have q12 : gR 99 = (.bool true) := hq 12 99 (by decide) (by kernel_rfl)
        have q13 : gR 100 = (.agg #[.int .i64 (a : Int), .slice p8 LT.length c8]) := hq 13 100 (by decide) (by kernel_rfl)
        have q14 : gR 101 = (.agg #[.int .i64 (a : Int), .slice p2 n2 c2]) := hq 14 101 (by decide) (by kernel_rfl)
        have q15 : gR 102 = (.bool B) := hq 15 102 (by decide) (by kernel_rfl)
        have q16 : gR 103 = (.agg #[.int .i64 (a : Int), .slice p8 LT.length c8]) := hq 16 103 (by decide) (by kernel_rfl)
        have q17 : gR 104 = (.agg #[.int .i64 (a : Int), .slice p2 n2 c2]) := hq 17 104 (by decide) (by kernel_rfl)
        have q18 : gR 105 = (.bool B) := hq 18 105 (by decide) (by kernel_rfl)
        have q19 : gR 106 = (.bool true) := hq 19 106 (by decide) (by kernel_rfl)
        have q20 : gR 107 = (.bool true) := hq 20 107 (by decide) (by kernel_rfl)
        have q21 : gR 108 = (.bool true) := hq 21 108 (by decide) (by kernel_rfl)
        have q22 : gR 109 = (.agg #[.int .i64 a0, .slice p0 len0 cap0]) := hq 22 109 (by decide) (by kernel_rfl)
        have q23 : gR 110 = (.agg #[.int .i64 (a : Int), .slice p2 n2 c2]) := hq 23 110 (by decide) (by kernel_rfl)
        have q24 : gR 111 = (.bool C9) := hq 24 111 (by decide) (by kernel_rfl)
        have q25 : gR 112 = (.agg #[.int .i64 a0, .slice p0 len0 cap0]) := hq 25 112 (by decide) (by kernel_rfl)
        have q26 : gR 113 = (.agg #[.int .i64 (a : Int), .slice p2 n2 c2]) := hq 26 113 (by decide) (by kernel_rfl)
        have q27 : gR 114 = (.bool C9) := hq 27 114 (by decide) (by kernel_rfl)
        have q28 : gR 115 = (.bool true) := hq 28 115 (by decide) (by kernel_rfl)
        have q29 : gR 116 = (.bool true) := hq 29 116 (by decide) (by kernel_rfl)
        have q30 : gR 117 = (.bool true) := hq 30 117 (by decide) (by kernel_rfl)
        have q31 : gR 118 = (.agg #[.int .i64 (a : Int), .slice p2 n2 c2]) := hq 31 118 (by decide) (by kernel_rfl)
        have q32 : gR 119 = (.agg #[.int .i64 a0, .slice p0 len0 cap0]) := hq 32 119 (by decide) (by kernel_rfl)
        have q33 : gR 120 = (.bool E9) := hq 33 120 (by decide) (by kernel_rfl)
        have q34 : gR 121 = (.agg #[.int .i64 (a : Int), .slice p2 n2 c2]) := hq 34 121 (by decide) (by kernel_rfl)
        have q35 : gR 122 = (.agg #[.int .i64 a0, .slice p0 len0 cap0]) := hq 35 122 (by decide) (by kernel_rfl)
        have q36 : gR 123 = (.bool E9) := hq 36 123 (by decide) (by kernel_rfl)
        have q37 : gR 124 = (.bool true) := hq 37 124 (by decide) (by kernel_rfl)
        have q38 : gR 125 = (.bool true) := hq 38 125 (by decide) (by kernel_rfl)
        have q39 : gR 16 = (.bool true) := hq 39 16 (by decide) (by kernel_rfl)
        refine ⟨fun _ => ?_, fun o ho => by simp at ho⟩
        simp only [putL, List.map_cons, List.map_nil, q0, q1, q2, q3, q4, q5, q6, q7, q8, q9, q10, q11, q12, q13, q14, q15, q16, q17, q18, q19, q20, q21, q22, q23, q24, q25, q26, q27, q28, q29, q30, q31, q32, q33, q34, q35, q36, q37, q38, q39, Act.put, pu1, pu2, pu3]
        clear hq hSE q0 q1 q2 q3 q4 q5 q6 q7 q8 q9 q10 q11 q12 q13 q14 q15 q16 q17 q18 q19 q20 q21 q22 q23 q24 q25 q26 q27 q28 q29 q30 q31 q32 q33 q34 q35 q36 q37 q38 q39
        have hUF := hS5
        clear hS1 hS2 hS3 hS4 hS5 hSB huE
        go_wp2_with fail
        go_ret
        exact ⟨rfl, HU9.out.trans hUF⟩
      ·have d0 : (ouC (a : Int) L (x : Int) K != 0) = true := by simpa using h0
       obtain ⟨E, hE⟩ : ∃ y, ouC (a : Int) L (x : Int) K = y := ⟨_, rfl⟩
       rw [hE] at d0 HOU
       clear hE h0
       go_wp2_with (first
        | ((with_reducible apply ldM_P); exact rfl; exact rfl; exact hbSr; exact rfl)
        | (go_at_call 16; (with_reducible refine HOU.out.mono ?_); rintro r w6 ⟨z6, rfl, hu6, hs6⟩; have hs6' := hs6; obtain ⟨s6, base6, rfl, hO6, -⟩ := hs6'; obtain ⟨p6, n6, c6, rfl⟩ := OwnI.slice hO6)
        | ((with_reducible apply stM_P); exact rfl; exact rfl; exact Blk.new _ _ rfl; exact rfl; exact rfl; exact two2 _ _ _ _ _
           refine wpL_folded (fun wd => Up w6 wd) gUp ?_
           rintro w7 hu7))
       go_ret
       exact ⟨rfl, HU.out.trans (hu6.trans hu7)⟩
   ·have d3 : decide ((40 : Int) < (lv.length : Int)) = true := decide_eq_true (by omega)
    clear hraw ha0 hl0 hhc h16 hg hlen hn hd hIv
    go_enter Tryz.func4, Tryz.ntmps4
    go_wp2_with (first
     | ((with_reducible apply ldM_P); exact rfl; exact rfl; exact hB; exact rfl)
     | (go_at_call 6; (with_reducible refine (HK.out _ hU).mono ?_); rintro r w1 ⟨rfl, hu1⟩; replace hB := hB.up hu1; replace hU := hU.trans hu1; have hc1 := hB.cell 1 rfl))
    go_ret
    exact ⟨rfl, hU⟩
  ·have d2 : decide ((60 : Int) < (hs.length : Int)) = true := decide_eq_true (by omega)
   clear hraw ha0 hl0 hhc h16 hg hlen hn hd hIv
   go_enter Tryz.func4, Tryz.ntmps4
   go_wp2_with (first
    | ((with_reducible apply ldM_P); exact rfl; exact rfl; exact hB; exact rfl)
    | (go_at_call 6; (with_reducible refine (HK.out _ hU).mono ?_); rintro r w1 ⟨rfl, hu1⟩; replace hB := hB.up hu1; replace hU := hU.trans hu1; have hc1 := hB.cell 1 rfl))
   go_ret
   exact ⟨rfl, hU⟩
 ·have d1 : decide ((60 : Int) < (len0 : Int)) = true := decide_eq_true (by omega)
  clear hraw ha0 hl0 hhc h16 hg hlen hn hd hIv
  go_enter Tryz.func4, Tryz.ntmps4
  go_wp2_with (first
   | ((with_reducible apply ldM_P); exact rfl; exact rfl; exact hB; exact rfl)
   | (go_at_call 6; (with_reducible refine (HK.out _ hU).mono ?_); rintro r w1 ⟨rfl, hu1⟩; replace hB := hB.up hu1; replace hU := hU.trans hu1; have hc1 := hB.cell 1 rfl))
  go_ret
  exact ⟨rfl, hU⟩
theorem bbelow_row {w : World} {a0 a1 a2 a5 a6 a7 : Int} {p0 p3 p4 : Option Addr} {len0 cap0 len3 cap3 len4 cap4 : Nat} {z0 z3 z4 : List Int} (hg : Glob w) (wf0 : (Lit.int .i64 a0).wf = true) (w0 : IsRowX .i64 w p0 len0 cap0 z0)
   (w1 : (Lit.int .u8 a1).wf = true) (w2 : (Lit.int .u16 a2).wf = true) (w3 : IsRowX .i16 w p3 len3 cap3 z3) (w4 : IsRowX .i64 w p4 len4 cap4 z4) (w5 : (Lit.int .u8 a5).wf = true) (w6 : (Lit.int .u8 a6).wf = true) :
   Calls Tryz.prog 4 #[.agg #[.int .i64 a0, .slice p0 len0 cap0], .int .u8 a1, .int .u16 a2, .slice p3 len3 cap3, .slice p4 len4 cap4, .int .u8 a5, .int .u8 a6, .int .i64 a7] w fun r w' => r = .returned (.bool true) /\ Up w w' := by
 obtain ⟨n, rfl, hn⟩ := wf_nat (m := 255) w1 IntKind.min_u8 IntKind.max_u8
 obtain ⟨d, rfl, hd⟩ := wf_nat (m := 65535) w2 IntKind.min_u16 IntKind.max_u16
 obtain ⟨x, rfl, hx⟩ := wf_nat (m := 255) w5 IntKind.min_u8 IntKind.max_u8
 obtain ⟨t, rfl, ht⟩ := wf_nat (m := 255) w6 IntKind.min_u8 IntKind.max_u8
 exact bbelow_w n d x t a7 hg (vw_row w0).1 (wf_i64 wf0) (vw_row w0).2 hn hd (vh_row w3).1 (vh_row w3).2 (vw_row w4).1 (vw_row w4).2 hx ht
end Go.Proofs.YtdpgpchcgmmklaaGreatDoor
namespace Go.Proofs.YtdpgpchcgmmklaaGreatDoor
open Go.ChangeShapes Go.WideShapes Go.RowKit
set_option maxRecDepth 100000
theorem own4 : ownKnob Tryz.prog.godebug = none := by kernel_rfl
theorem et4 : Tryz.prog.globalNamed "errors.errorType" = some 0 := by kernel_rfl
theorem rt4 : (Tryz.prog.cutTypes.find? (·.1 == "internal/reflectlite.rtype")).map (·.2) = some 138 := by kernel_rfl
theorem oneRow4 : ((List.range 199).filter fun t => Tryz.prog.rowNamed t [101, 114, 114, 111, 114]) = [35] := by kernel_rfl
theorem size4 : Tryz.prog.types.size = 199 := by kernel_rfl
theorem glob_of_laid {W : World} (h : laidMetH Tryz.prog [("errors.errorType", Rows.laid_errors_errorType)] W) : Glob W := by
 have h' : laidMet Tryz.prog [] W /\ handlesMet Tryz.prog [("errors.errorType", Rows.laid_errors_errorType)] W := h
 obtain ⟨name, u, ty, e1, e2, e3, e4, e5⟩ := h'.2 _ (List.mem_singleton.2 rfl)
 have en : name = [101, 114, 114, 111, 114] := (Option.some.inj e1).symm
 subst en
 obtain rfl := Option.some.inj (rt4.symm.trans e2)
 have hm : ty ∈ (List.range 199).filter fun t => Tryz.prog.rowNamed t [101, 114, 114, 111, 114] := List.mem_filter.2 ⟨List.mem_range.2 (by rw [<- size4]; exact e3), e4⟩
 rw [oneRow4] at hm
 obtain rfl := List.mem_singleton.1 hm
 have hh : typeHandle Tryz.prog 35 = .pointer (some ⟨3, 35, none⟩) := by kernel_rfl
 rw [hh] at e5
 unfold Glob
 simpa using World.var?_cell et4 e5 0
noncomputable def laidWorld (os : Os) : World :=
 let w0 := World.holding Tryz.prog os ⟨#[], #[], []⟩
 { w0 with heap := w0.heap.modify 0 fun
    | .cells _ t frozen => .cells #[.iface 138 (.agg #[.pointer (some ⟨3, 35, none⟩)])] t frozen
    | o => o }
theorem laidWorld_met (os : Os) (args : Array Value) : laidMetH Tryz.prog [("errors.errorType", Rows.laid_errors_errorType)] ((laidWorld os).forCall (fun _ _ => 0) ⟨#[], args, []⟩).memory :=
 laidMetH_of_parts (laidMet_nil _ _) (by kernel_rfl)
end Go.Proofs.YtdpgpchcgmmklaaGreatDoor
