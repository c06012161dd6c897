import Derived.Test.YtdpgpchcgmmklaaGreatDoorPe
import Derived.DataShut
import Derived.Test.YtdpgpchcgmmklaaGreatDoorRows
import Derived.Test.YtdpgpchcgmmklaaGreatDoorTie
import Derived.ChangeSame
import Derived.ChangeVars
import Derived.JoinedOf
import Derived.RowKit
import Derived.RowKitTokens
import Derived.LaidLaws
import Derived.LaidHandle
import Derived.Stop.Joined
import Derived.ChangeMaps5
import Derived.SevenTiedAt
namespace Go.Proofs.YtdpgpchcgmmklaaGreatDoor
open Go Go.RowKit
set_option maxRecDepth 100000
set_option linter.unusedSimpArgs false
section
variable {P : Program} {ops : Array Oper} {Q : Exit -> Act -> World -> Prop} {md : Region.Mode}
def relB2 (md : Region.Mode) (ops : Array Oper) (n s1 s2 x : Nat) : Bool :=
 ((List.range ops.size).all fun i => ((ops[i]?).map fun o => o.guard.isNone && (o.after.all fun e => !Region.binds md e || decide (e.on < i)) &&
   (if i = s1 \/ i = s2 then o.dst.isNone else ((o.dst.map fun d => decide (d < n)).getD false) && (List.range ops.size).all fun j => j == i || ((ops[j]?).map fun o' => o'.dst != o.dst).getD true)).getD false) &&
 ((List.range ops.size).all fun j => j == s1 || j == s2 || j == x || waitsU md ops j ops.size s1) && ((List.range ops.size).all fun j => j == s2 || waitsU md ops j ops.size s2) &&
 (decide (x < s1) && decide (s1 < s2) && decide (s2 < ops.size))
theorem relB2_op {n s1 s2 x : Nat} (h : relB2 md ops n s1 s2 x = true) {i : Nat} {o : Oper} (hi : ops[i]? = some o) :
   o.guard = none /\ (∀ e ∈ o.after, Region.binds md e = true -> e.on < i) /\ (i = s1 \/ i = s2 -> o.dst = none) /\
   (i ≠ s1 -> i ≠ s2 -> ∃ d, o.dst = some d /\ d < n /\ ∀ j o', ops[j]? = some o' -> j ≠ i -> o'.dst ≠ some d) := by
 unfold relB2 at h
 simp only [Bool.and_eq_true] at h
 have hlt : i < ops.size := (Array.getElem?_eq_some_iff.1 hi).1
 have h1 := List.all_eq_true.1 h.1.1.1 i (List.mem_range.2 hlt)
 rw [hi] at h1
 simp only [Option.map_some, Option.getD_some, Bool.and_eq_true] at h1
 obtain ⟨⟨h2, h3⟩, h4⟩ := h1
 refine ⟨Option.isNone_iff_eq_none.1 h2, fun e he hb => ?_, fun hs => ?_, fun hs hs' => ?_⟩
 ·have := Array.all_eq_true_iff_forall_mem.1 h3 e he
  simpa [hb] using this
 ·rw [if_pos hs] at h4
  exact Option.isNone_iff_eq_none.1 h4
 ·rw [if_neg (by omega), Bool.and_eq_true] at h4
  cases hd : o.dst with
  | none => rw [hd] at h4; simp at h4
  | some d =>
    rw [hd] at h4
    refine ⟨d, rfl, by simpa using h4.1, fun j o' hj hji => ?_⟩
    have h5 := List.all_eq_true.1 h4.2 j (List.mem_range.2 (Array.getElem?_eq_some_iff.1 hj).1)
    rw [hj] at h5
    simp only [Option.map_some, Option.getD_some, Bool.or_eq_true, beq_iff_eq, bne_iff_ne] at h5
    exact h5.resolve_left hji
theorem relB2_is {n s1 s2 x : Nat} (h : relB2 md ops n s1 s2 x = true) : x < s1 /\ s1 < s2 /\ s2 < ops.size := by
 unfold relB2 at h
 simp only [Bool.and_eq_true, decide_eq_true_eq] at h
 omega
theorem relB2_s1 {n s1 s2 x : Nat} (h : relB2 md ops n s1 s2 x = true) {j : Nat} (hj : j < ops.size) (h1 : j ≠ s1) (h2 : j ≠ s2) (h3 : j ≠ x) : waitsU md ops j ops.size s1 = true := by
 unfold relB2 at h
 simp only [Bool.and_eq_true] at h
 have := List.all_eq_true.1 h.1.1.2 j (List.mem_range.2 hj)
 simpa [h1, h2, h3] using this
theorem relB2_s2 {n s1 s2 x : Nat} (h : relB2 md ops n s1 s2 x = true) {j : Nat} (hj : j < ops.size) (h2 : j ≠ s2) : waitsU md ops j ops.size s2 = true := by
 unfold relB2 at h
 simp only [Bool.and_eq_true] at h
 have := List.all_eq_true.1 h.1.2 j (List.mem_range.2 hj)
 simpa [h2] using this
theorem ready2 {n s1 s2 x : Nat} (hB : relB2 md ops n s1 s2 x = true) {listed : Array Bool} (hs : listed.size = ops.size) : ∀ k, k < ops.size -> listed.getD k true = false -> ∃ i, i ∈ Region.ready md ops listed := by
 intro k
 induction k using Nat.strongRecOn with
 | _ k ih =>
   intro hk hl
   obtain ⟨o, ho⟩ : ∃ o, ops[k]? = some o := ⟨ops[k], Array.getElem?_eq_getElem hk⟩
   obtain ⟨_, h2, _⟩ := relB2_op hB ho
   by_cases hall : ∀ e ∈ o.after, Region.binds md e = true -> listed.getD e.on false = true
   ·exact ⟨k, mem_ready.2 ⟨hl, o, ho, hall⟩⟩
   ·obtain ⟨e, hne⟩ := Classical.not_forall.1 hall
    obtain ⟨he, hne⟩ := Classical.not_imp.1 hne
    obtain ⟨hb, hne⟩ := Classical.not_imp.1 hne
    have hlt := h2 e he hb
    refine ih e.on hlt (by omega) ?_
    have hsz : e.on < listed.size := by omega
    simp [hsz] at hne ⊢
    exact hne
theorem readyT {listed : Array Bool} (h : ∀ j, j < ops.size -> listed.getD j true = true) : Region.ready md ops listed = [] := by
 cases hrd : Region.ready md ops listed with
 | nil => rfl
 | cons k l =>
   obtain ⟨h1, ok, hok, _⟩ := mem_ready.1 (show k ∈ Region.ready md ops listed by rw [hrd]; exact List.mem_cons_self)
   rw [h k (Array.getElem?_eq_some_iff.1 hok).1] at h1
   cases h1
theorem wpAny_done {fuel : Nat} {listed : Array Bool} {a : Act} {w : World} (h : ∀ j, j < ops.size -> listed.getD j true = true) (hq : Q .normal a w) : wpAny P md ops Q fuel listed a w := by
 cases fuel with
 | zero => exact ⟨readyT h, hq⟩
 | succ f => exact ⟨fun _ => hq, by rw [readyT h]; intro j hj; cases hj⟩
theorem setT {listed : Array Bool} {i : Nat} (hl : listed.size = ops.size) (hi : i < ops.size) {p : Nat -> Prop} (h : ∀ j, j < ops.size -> j ≠ i -> ¬ p j -> listed.getD j true = true) : ∀ j, j < ops.size -> ¬ p j -> (listed.setIfInBounds i true).getD j true = true := fun j hj hp => by
 by_cases e : j = i
 ·subst e
  have h2 : j < listed.size := by omega
  simp [h2]
 ·rw [getD_set_ne true (Ne.symm e)]
  exact h j hj e hp
theorem wpAny_one {n s1 s2 x : Nat} (hB : relB2 md ops n s1 s2 x = true) {fuel : Nat} {listed : Array Bool} {a : Act} {w : World} {i : Nat} {o : Oper} (hl : listed.size = ops.size) (ho : ops[i]? = some o) (h : ∀ j, j < ops.size -> j ≠ i -> listed.getD j true = true) (hi : listed.getD i true = false)
   (hq : Oper.wp P o a w (Q .normal) Q) (hf : 1 <= fuel) : wpAny P md ops Q fuel listed a w := by
 cases fuel with
 | zero => omega
 | succ f =>
   have hlt : i < ops.size := (Array.getElem?_eq_some_iff.1 ho).1
   refine ⟨fun hr => ?_, fun k hk => ?_⟩
   ·obtain ⟨k, hk⟩ := ready2 hB hl i hlt hi
    rw [hr] at hk
    cases hk
   ·obtain ⟨h1, ok, hok, _⟩ := mem_ready.1 hk
    have hkl : k < ops.size := (Array.getElem?_eq_some_iff.1 hok).1
    have e : k = i := by
     by_cases e : k = i
     ·exact e
     ·rw [h k hkl e] at h1; cases h1
    subst e
    have hw : Region.wanted o (yielded ops a.tmps) = true := by simp [Region.wanted, (relB2_op hB ho).1]
    unfold wpOp
    simp only [ho, hw, if_true]
    exact .inl (Oper.wp_mono (fun a' w' hq => wpAny_done (fun j hj => setT (p := fun _ => False) hl hlt (fun j hj hji _ => h j hj hji) j hj id) hq) hq)
structure Twin (P : Program) (ops : Array Oper) (R : Nat -> Value -> World -> Prop) (s1 s2 x p1 p2 : Nat) (d1 d2 : Tmp) : Prop where
 dst : ∀ i o, ops[i]? = some o -> (i = p1 -> o.dst = some d1) /\ (i = p2 -> o.dst = some d2)
 lt : p1 < ops.size /\ p2 < ops.size /\ p1 ≠ p2 /\ p1 ≠ s1 /\ p1 ≠ s2 /\ p1 ≠ x /\ p2 ≠ s1 /\ p2 ≠ s2 /\ p2 ≠ x
 old : ∀ i v w, i = p1 \/ i = p2 -> R i v w -> ∃ b, v = .pointer (some ⟨b, 0, none⟩) /\ b < w.heap.size
 new : ∀ i o ev w, ops[i]? = some o -> i = p1 \/ i = p2 -> ∃ w', (execOp ev o).run P w = .ok (.value (.pointer (some ⟨w.heap.size, 0, none⟩))) w'
theorem wpAny_rel2 {n s1 s2 x p1 p2 : Nat} {d1 d2 : Tmp} {R : Nat -> Value -> World -> Prop} {S : World -> Prop} {a0 : Act} {w0 : World} (hn : a0.tmps.size = n) (hB : relB2 md ops n s1 s2 x = true)
   (hR : ∀ i v w w', R i v w -> Up w w' -> R i v w') (hS : ∀ w w', S w -> Up w w' -> S w') (hT : Twin P ops R s1 s2 x p1 p2 d1 d2)
   (hop : ∀ i o, ops[i]? = some o -> i ≠ s1 -> i ≠ s2 -> ∀ ev w, S w -> RelEv ops md R a0 o ev w -> LeavesR P (R i) w ((execOp ev o).run P w))
   (hfin : ∀ a w, a.tmps.size = a0.tmps.size -> a.defers = a0.defers -> (∀ s, (∀ o' ∈ ops, o'.dst ≠ some s) -> a.tmps[s]? = a0.tmps[s]?) -> (∀ i o d, ops[i]? = some o -> i ≠ s1 -> i ≠ s2 -> i ≠ x -> o.dst = some d -> R i (a.tmps.getD d undef) w) -> a.tmps.getD d1 undef ≠ a.tmps.getD d2 undef -> S w -> Up w0 w ->
    ∀ o1 o2 ox, ops[s1]? = some o1 -> ops[s2]? = some o2 -> ops[x]? = some ox ->
      ((∀ d, ox.dst = some d -> R x (a.tmps.getD d undef) w) -> Oper.wp P o1 a w (fun a1 w1 => Oper.wp P o2 a1 w1 (Q .normal) Q) Q) /\ Oper.wp P o1 a w (fun a1 w1 => Oper.wp P ox a1 w1 (fun a2 w2 => Oper.wp P o2 a2 w2 (Q .normal) Q) Q) Q) :
   ∀ (fuel : Nat) (listed : Array Bool) (a : Act) (w : World), leftU ops.size listed <= fuel -> closedU md ops listed -> listed.getD s1 true = false -> listed.getD s2 true = false -> RelInv ops R a0 listed a w -> (listed.getD p1 true = true -> listed.getD p2 true = true -> a.tmps.getD d1 undef ≠ a.tmps.getD d2 undef) -> S w -> Up w0 w -> wpAny P md ops Q fuel listed a w := by
 obtain ⟨tp1, tp2, tpp, t1a, t1b, t1c, t2a, t2b, t2c⟩ := hT.lt
 obtain ⟨hx1, h12, h2s⟩ := relB2_is hB
 obtain ⟨o1, ho1⟩ : ∃ o, ops[s1]? = some o := ⟨ops[s1], Array.getElem?_eq_getElem (by omega)⟩
 obtain ⟨o2, ho2⟩ : ∃ o, ops[s2]? = some o := ⟨ops[s2], Array.getElem?_eq_getElem (by omega)⟩
 obtain ⟨ox, hox⟩ : ∃ o, ops[x]? = some o := ⟨ops[x], Array.getElem?_eq_getElem (by omega)⟩
 intro fuel
 induction fuel with
 | zero =>
   intro listed a w hf hcl hs1 hs2 hI hJ hSw hu
   have := leftU_zero (listed := listed) (n := ops.size) (by omega) (j := s2) (by omega)
   rw [this] at hs2; cases hs2
 | succ fuel ih =>
   intro listed a w hf hcl hs1 hs2 hI hJ hSw hu
   refine ⟨fun hr => ?_, fun i hi => ?_⟩
   ·obtain ⟨k, hk⟩ := ready2 hB hI.lsize s2 (by omega) hs2
    rw [hr] at hk
    cases hk
   ·obtain ⟨hun, o, ho, hall⟩ := mem_ready.1 hi
    have hlt : i < ops.size := (Array.getElem?_eq_some_iff.1 ho).1
    obtain ⟨hg, _, hdn, hds⟩ := relB2_op hB ho
    have hw : Region.wanted o (yielded ops a.tmps) = true := by simp [Region.wanted, hg]
    have hwt : ∀ j, j < ops.size -> waitsU md ops j ops.size i = true -> listed.getD j true = true := fun j hj hwj => by
     have h1 := waitsU_spec hcl ops.size i o ho hall hwj
     have h2 : j < listed.size := by rw [hI.lsize]; exact hj
     simp [h2] at h1 ⊢
     exact h1
    have hdone : ∀ j oj d, ops[j]? = some oj -> listed.getD j true = true -> oj.dst = some d -> R j (a.tmps.getD d undef) w := fun j oj d hoj hl hd => by
     refine hI.done j oj d hoj ?_ hd
     have h2 : j < listed.size := by rw [hI.lsize]; exact (Array.getElem?_eq_some_iff.1 hoj).1
     simp [h2] at hl ⊢
     exact hl
    unfold wpOp
    simp only [ho, hw, if_true]
    refine .inl ?_
    by_cases hi2 : i = s2
    ·subst hi2
     have := hwt s1 (by omega) (relB2_s2 hB (by omega) (by omega))
     rw [this] at hs1; cases hs1
    ·by_cases hi1 : i = s1
     ·subst hi1
      rw [ho1] at ho
      obtain rfl := Option.some.inj ho
      have hz : ∀ j, j < ops.size -> j ≠ i -> j ≠ s2 -> j ≠ x -> listed.getD j true = true := fun j hj a1 a2 a3 => hwt j hj (relB2_s1 hB hj a1 a2 a3)
      have hF := hfin a w hI.size hI.defers hI.other (fun k ok d hok k1 k2 k3 hd => hdone k ok d hok (hz k (Array.getElem?_eq_some_iff.1 hok).1 k1 k2 k3) hd) (hJ (hz p1 tp1 t1a t1b t1c) (hz p2 tp2 t2a t2b t2c)) hSw hu o1 o2 ox ho1 ho2 hox
      have hlf := leftU_set (n := ops.size) (listed := listed) hlt hun
      have hl1 : (listed.setIfInBounds i true).size = ops.size := by simp [hI.lsize]
      have hs21 : (listed.setIfInBounds i true).getD s2 true = false := by rw [getD_set_ne true hi2]; exact hs2
      have hl2 := leftU_set (n := ops.size) (i := s2) (listed := listed.setIfInBounds i true) (by omega) hs21
      cases hlx : listed.getD x true with
      | true =>
        refine Oper.wp_mono (fun a1 w1 hq => ?_) (hF.1 fun d hd => hdone x ox d hox hlx hd)
        refine wpAny_one hB hl1 ho2 (fun j hj hne => setT (p := fun j => j = s2) hI.lsize hlt (fun j hj a1 a2 => ?_) j hj hne) hs21 hq (by omega)
        by_cases e : j = x
        ·rw [e]; exact hlx
        ·exact hz j hj a1 a2 e
      | false =>
        refine Oper.wp_mono (fun a1 w1 hq => ?_) hF.2
        have hsx : (listed.setIfInBounds i true).getD x true = false := by rw [getD_set_ne true (by omega)]; exact hlx
        obtain ⟨f, rfl⟩ : ∃ f, fuel = f + 1 := ⟨fuel - 1, by omega⟩
        have hcl1 := closedU_set hcl hi
        refine ⟨fun hr => ?_, fun k hk => ?_⟩
        ·obtain ⟨k, hk⟩ := ready2 hB hl1 s2 (by omega) hs21
         rw [hr] at hk
         cases hk
        ·obtain ⟨hkn, ok, hok, hallk⟩ := mem_ready.1 hk
         have hkl : k < ops.size := (Array.getElem?_eq_some_iff.1 hok).1
         have hk2 : k ≠ s2 := by
          rintro rfl
          have h1 := waitsU_spec hcl1 ops.size k ok hok hallk (relB2_s2 hB (j := x) (by omega) (by omega))
          rw [getD_set_ne false (show i ≠ x by omega)] at h1
          have h2 : x < listed.size := by rw [hI.lsize]; omega
          simp [h2] at h1 hlx
          rw [h1] at hlx; cases hlx
         have hki : k ≠ i := by
          rintro rfl
          have h2 : k < listed.size := by rw [hI.lsize]; exact hkl
          simp [h2] at hkn
         have hkx : k = x := by
          by_cases e : k = x
          ·exact e
          ·rw [getD_set_ne true (Ne.symm hki), hz k hkl hki hk2 e] at hkn; cases hkn
         subst hkx
         rw [hox] at hok
         obtain rfl := Option.some.inj hok
         have hwx : Region.wanted ox (yielded ops a1.tmps) = true := by simp [Region.wanted, (relB2_op hB hox).1]
         unfold wpOp
         simp only [hox, hwx, if_true]
         refine .inl (Oper.wp_mono (fun a2 w2 hq2 => ?_) hq)
         have hl3 := leftU_set (n := ops.size) (i := k) (listed := listed.setIfInBounds i true) (by omega) hsx
         have hs22 : ((listed.setIfInBounds i true).setIfInBounds k true).getD s2 true = false := by rw [getD_set_ne true hk2]; exact hs21
         have hl4 := leftU_set (n := ops.size) (i := s2) (listed := (listed.setIfInBounds i true).setIfInBounds k true) (by omega) hs22
         refine wpAny_one hB (by simp [hI.lsize]) ho2 (fun j hj hne => setT (p := fun j => j = s2) hl1 hkl (fun j hj a1 a2 => ?_) j hj hne) hs22 hq2 (by omega)
         exact setT (p := fun j => j = s2 \/ j = k) hI.lsize hlt (fun j hj b1 b2 => hz j hj b1 (fun e => b2 (.inl e)) (fun e => b2 (.inr e))) j hj (fun e => e.elim a2 a1)
     ·obtain ⟨d, hd, hdl, hdd⟩ := hds hi1 hi2
      have hev : RelEv ops md R a0 o a.eval w := by
       refine ⟨fun _ => rfl, fun _ => rfl, fun _ => rfl, fun s hs => ?_, fun j o' d' hj he hd' => ?_⟩
       ·show a.tmps.getD s undef = a0.tmps.getD s undef
        rw [Array.getD_eq_getD_getElem?, Array.getD_eq_getD_getElem?, hI.other s hs]
       ·obtain ⟨e, he, hb, rfl⟩ := he
        exact hI.done e.on o' d' hj (hall e he hb) hd'
      have h1 := hop i o ho hi1 hi2 a.eval w hSw hev
      have hne : ∀ v q c, q < ops.size -> q ≠ i -> (∀ oq, ops[q]? = some oq -> oq.dst = some c) -> (a.put o.dst v).tmps.getD c undef = a.tmps.getD c undef := fun v q c hq hqi hc => by
       have hne : d ≠ c := fun e => hdd q _ (Array.getElem?_eq_getElem hq) hqi (by rw [hc _ (Array.getElem?_eq_getElem hq), e])
       rw [hd, Array.getD_eq_getD_getElem?, Array.getD_eq_getD_getElem?]
       simp [Act.put, hne]
      have hown : ∀ v, (a.put o.dst v).tmps.getD d undef = v := fun v => by
       have hds : d < a.tmps.size := by rw [hI.size, hn]; exact hdl
       rw [hd]
       simp [Act.put, hds]
      have hnext : ∀ v w', R i v w' -> Up w w' -> (i = p1 \/ i = p2 -> v = .pointer (some ⟨w.heap.size, 0, none⟩)) -> wpAny P md ops Q fuel (listed.setIfInBounds i true) (a.put o.dst v) w' := by
       intro v w' hv hu' hvp
       refine ih _ _ _ ?_ (closedU_set hcl hi) ?_ ?_ ?_ ?_ (hS _ _ hSw hu') (hu.trans hu')
       ·have := leftU_set (n := ops.size) hlt hun; omega
       ·rw [getD_set_ne true hi1]; exact hs1
       ·rw [getD_set_ne true hi2]; exact hs2
       ·refine ⟨by rw [hd]; exact hI.defers, by rw [hd]; simp [Act.put, hI.size], by simp [hI.lsize], fun s hs => ?_, fun j o' d' hj hl hd' => ?_⟩
        ·have hne : d ≠ s := by
          rintro rfl
          obtain ⟨hx, hy⟩ := Array.getElem?_eq_some_iff.1 ho
          exact hs o (by rw [<- hy]; exact Array.getElem_mem hx) hd
         rw [<- hI.other s hs, hd]
         simp [Act.put, hne]
        ·by_cases hji : j = i
         ·subst hji
          rw [ho] at hj
          obtain rfl := Option.some.inj hj
          rw [hd] at hd'
          obtain rfl := Option.some.inj hd'
          rw [hown]
          exact hv
         ·rw [getD_set_ne false (Ne.symm hji)] at hl
          rw [hne v j d' (Array.getElem?_eq_some_iff.1 hj).1 hji fun oq hoq => by rw [hj] at hoq; obtain rfl := Option.some.inj hoq; exact hd']
          exact hR j _ _ _ (hI.done j o' d' hj hl hd') hu'
       ·intro l1 l2
        have hold : ∀ q c, q = p1 \/ q = p2 -> q ≠ i -> (∀ oq, ops[q]? = some oq -> oq.dst = some c) -> listed.getD q true = true -> ∃ b, (a.put o.dst v).tmps.getD c undef = .pointer (some ⟨b, 0, none⟩) /\ b < w.heap.size := fun q c hq hqi hc hlq => by
         have hqs : q < ops.size := by rcases hq with rfl | rfl <;> assumption
         rw [hne v q c hqs hqi hc]
         exact hT.old q _ _ hq (hdone q _ c (Array.getElem?_eq_getElem hqs) hlq (hc _ (Array.getElem?_eq_getElem hqs)))
        by_cases e1 : i = p1
        ·subst e1
         rw [getD_set_ne true tpp] at l2
         obtain ⟨b, hb, hlb⟩ := hold p2 d2 (.inr rfl) (Ne.symm tpp) (fun oq hoq => (hT.dst p2 oq hoq).2 rfl) l2
         have hdd1 := (hT.dst i o ho).1 rfl
         rw [hd] at hdd1
         obtain rfl := Option.some.inj hdd1
         rw [hb, hown, hvp (.inl rfl)]
         intro e
         injection e with e; injection e with e; injection e with e
         omega
        ·by_cases e2 : i = p2
         ·subst e2
          rw [getD_set_ne true (Ne.symm tpp)] at l1
          obtain ⟨b, hb, hlb⟩ := hold p1 d1 (.inl rfl) tpp (fun oq hoq => (hT.dst p1 oq hoq).1 rfl) l1
          have hdd2 := (hT.dst i o ho).2 rfl
          rw [hd] at hdd2
          obtain rfl := Option.some.inj hdd2
          rw [hb, hown, hvp (.inr rfl)]
          intro e
          injection e with e; injection e with e; injection e with e
          omega
         ·rw [getD_set_ne true e1] at l1
          rw [getD_set_ne true e2] at l2
          rw [hne v p1 d1 tp1 (Ne.symm e1) fun oq hoq => (hT.dst p1 oq hoq).1 rfl, hne v p2 d2 tp2 (Ne.symm e2) fun oq hoq => (hT.dst p2 oq hoq).2 rfl]
          exact hJ l1 l2
      have hnw : i = p1 \/ i = p2 -> ∃ w', (execOp a.eval o).run P w = .ok (.value (.pointer (some ⟨w.heap.size, 0, none⟩))) w' := fun e => hT.new i o a.eval w ho e
      unfold Oper.wp
      generalize (execOp a.eval o).run P w = r at *
      cases r with
      | halt x w' => exact h1.elim
      | ok nx w' =>
        cases nx with
        | value u => exact hnext u w' h1.1 h1.2 fun e => by obtain ⟨w2, h⟩ := hnw e; injection h with h; injection h
        | enter f args =>
          obtain ⟨hu', hc⟩ := h1
          refine Calls.mono hc fun e w'' he => ?_
          obtain ⟨hu2, v, rfl, hv⟩ := he
          exact hnext v w'' hv (hu'.trans hu2) fun e => by obtain ⟨w2, h⟩ := hnw e; injection h with h; cases h
        | _ => exact h1.elim
theorem wp_region_sp2 {id : Nat} {a0 : Act} {w0 : World} {n : Nat} (s1 s2 x p1 p2 : Nat) (d1 d2 : Tmp) (ds : List Tmp) (L : List SP) (S : World -> Prop) (hm : P.follows .mixedOrders = true) (hn : a0.tmps.size = n) (hB : relB2 .any ops n s1 s2 x = true)
   (hds : dsB ops ds = true) (hS : ∀ w w', S w -> Up w w' -> S w') (h0 : S w0) (hT : Twin P ops (nthR L) s1 s2 x p1 p2 d1 d2)
   (hop : ∀ ev w, S w -> ∀ i o, i ≠ s1 -> i ≠ s2 -> ops[i]? = some o -> EvR ops L a0 i ev w -> LeavesR P (nthR L i) w ((execOp ev o).run P w))
   (hfin : ∀ (g : Tmp -> Value) w, (∀ i d, i ≠ s1 -> i ≠ s2 -> i ≠ x -> dstB ops i d = true -> nthR L i (g d) w) -> g d1 ≠ g d2 -> S w -> Up w0 w ->
    ∀ o1 o2 ox, ops[s1]? = some o1 -> ops[s2]? = some o2 -> ops[x]? = some ox ->
      ((∀ d, ox.dst = some d -> nthR L x (g d) w) -> Oper.wp P o1 (putL a0 (ds.map fun d => (d, g d))) w (fun a1 w1 => Oper.wp P o2 a1 w1 (Q .normal) Q) Q) /\
      Oper.wp P o1 (putL a0 (ds.map fun d => (d, g d))) w (fun a1 w1 => Oper.wp P ox a1 w1 (fun a2 w2 => Oper.wp P o2 a2 w2 (Q .normal) Q) Q) Q) :
   (Code.region id ops true).wp P Q a0 w0 := by
 refine wp_region_any hm (wpAny_rel2 (R := nthR L) (S := S) hn hB (fun i v w w' h hu => (L.getD i SP.any).up v w w' h hu) hS hT (fun i o hi h1 h2 ev w hSw hev => ?_) (fun a w hs hd ho hr hJ hSw hu => ?_) _ _ _ _ ?_ ?_ ?_ ?_ ?_ ?_ (hS _ _ h0 (Up.drew w0)) (Up.drew w0))
 ·refine hop ev w hSw i o h1 h2 hi ⟨hev.const, hev.func, hev.global, fun s hs => hev.other s fun o' ho' => ?_, fun j d hj => ?_⟩
  ·have := Array.all_eq_true_iff_forall_mem.1 hs o' ho'
   simpa using this
  ·unfold depB at hj
   rw [hi] at hj
   cases hoj : ops[j]? with
   | none => rw [hoj] at hj; cases hj
   | some o' =>
     rw [hoj] at hj
     simp only [Bool.and_eq_true, Array.any_eq_true', beq_iff_eq] at hj
     obtain ⟨⟨e, he, hb, hon⟩, hd⟩ := hj
     exact hev.dep j o' d hoj ⟨e, he, hb, hon⟩ hd
 ·have e := putL_eq (ds := ds) hs hd (fun s hs' => ho s fun o' hm he => hs' (by
   have := Array.all_eq_true_iff_forall_mem.1 hds o' hm
   simpa [he] using this))
  have h := hfin (fun d => a.tmps.getD d undef) w (fun i d h1 h2 h3 hd => by
   unfold dstB at hd
   cases ho : ops[i]? with
   | none => rw [ho] at hd; cases hd
   | some o' =>
     rw [ho] at hd
     exact hr i o' d ho h1 h2 h3 (by simpa using hd)) hJ hSw hu
  rw [<- e] at h
  exact h
 ·unfold leftU; exact Nat.le_trans (List.length_filter_le _ _) (by simp)
 ·intro j oj hj hl
  have : j < ops.size := (Array.getElem?_eq_some_iff.1 hj).1
  simp [this] at hl
 ·have := relB2_is hB
  have h : s1 < ops.size := by omega
  simp [h]
 ·have := relB2_is hB
  have h : s2 < ops.size := by omega
  simp [h]
 ·refine ⟨rfl, rfl, by simp, fun _ _ => rfl, fun i o d ho hl _ => ?_⟩
  have : i < ops.size := (Array.getElem?_eq_some_iff.1 ho).1
  simp [this] at hl
 ·intro h1 _
  have := hT.lt.1
  simp [this] at h1
end
theorem blkM_cell {w : World} {g i : Nat} {C : Array Value} {v : Value} (hB : Blk w g 61 C) (h : C[i]? = some v) : w.cell? ⟨g, i, none⟩ = some v := hB.cell i h
theorem wp_val {P : Program} {o : Oper} {a : Act} {w : World} {v : Value} {K : Act -> World -> Prop} {Q : Exit -> Act -> World -> Prop} (h : (execOp a.eval o).run P w = .ok (.value v) w) (hK : K (a.put o.dst v) w) : Oper.wp P o a w K Q := by
 unfold Oper.wp
 rw [h]
 exact hK
set_option maxHeartbeats 16000000 in
theorem rstep_any {w : World} {base n m k i j B : Nat} {av pv : Value} {G : Nat -> Nat} {V : Nat -> Nat -> Int} {q : Int} (h : OwnM w base av n m G V) (hp : Big w pv q) (hk : k < n) (hi : i < n) (hkm : k < m) (hj : j < m) (hn : n <= 8) (_ : m <= 9) (hB : B <= 100)
   (hq : q ≠ 0) (bq : q.natAbs < bp B) (b1 : (V k k).natAbs < bp B) (b2 : (V i j).natAbs < bp B) (b3 : (V i k).natAbs < bp B) (b4 : (V k j).natAbs < bp B) :
   Calls Tryz.prog 70 #[av, .int .i64 (k : Nat), .int .i64 (i : Nat), .int .i64 (j : Nat), pv] w fun r w' => Up w w' /\ ∃ v, r = .returned v /\ Big w' v ((V k k * V i j - V i k * V k j).tdiv q) := by
 obtain ⟨g, cap, C, rfl, -, -, hBg, hE⟩ := h.open (by omega)
 obtain ⟨ck, hCk⟩ := hE k hk
 obtain ⟨ci, hCi⟩ := hE i hi
 obtain ⟨Ck, bkk, akk, nkk, ckk, hBk, hsk, h1, h2, hkk⟩ := h.entry hk hkm
 obtain ⟨Ck', bkj, akj, nkj, ckj, hBk', -, h3, h4, hkj⟩ := h.entry hk hj
 obtain ⟨Ci, bij, aij, nij, cij, hBi, -, h5, h6, hij⟩ := h.entry hi hj
 obtain ⟨Ci', bik, aik, nik, cik, hBi', -, h7, h8, hik⟩ := h.entry hi hkm
 have e1 : Ck' = Ck := by unfold Blk at hBk hBk'; rw [hBk] at hBk'; simp at hBk'; exact hBk'.symm
 have e2 : Ci' = Ci := by unfold Blk at hBi hBi'; rw [hBi] at hBi'; simp at hBi'; exact hBi'.symm
 subst e1 e2
 obtain ⟨pb, pa, pn, pc, rfl⟩ := hp.shape
 have HCk := hid (fun w' (hB : Blk w' g 61 C) => blkM_cell hB hCk)
 have HCi := hid (fun w' (hB : Blk w' g 61 C) => blkM_cell hB hCi)
 have Hkk := hid (fun w' (hB : Blk w' (G k) 59 Ck') => bigAt_range hB h1 h2)
 have Hkj := hid (fun w' (hB : Blk w' (G k) 59 Ck') => bigAt_range hB h3 h4)
 have Hij := hid (fun w' (hB : Blk w' (G i) 59 Ci') => bigAt_range hB h5 h6)
 have Hik := hid (fun w' (hB : Blk w' (G i) 59 Ci') => bigAt_range hB h7 h8)
 have p1 : (V k k * V i j).natAbs < bp (B + B) := by rw [Int.natAbs_mul, bp_add]; exact Nat.mul_lt_mul_of_lt_of_lt b1 b2
 have p2 : (V i k * V k j).natAbs < bp (B + B) := by rw [Int.natAbs_mul, bp_add]; exact Nat.mul_lt_mul_of_lt_of_lt b3 b4
 have p3 : (V k k * V i j - V i k * V k j).natAbs < bp (B + B + 1) := by have e : bp (B + B + 1) = bp (B + B) * 18446744073709551616 := bp_succ (B + B); omega
 have HM1 := hid (fun (va vb : Value) (w : World) (ha : Big w va (V k k)) (hb : Big w vb (V i j)) => mul_big ha hb (nl_bp (k := B) (by omega) b1) (nl_bp (k := B) (by omega) b2))
 have HM2 := hid (fun (va vb : Value) (w : World) (ha : Big w va (V i k)) (hb : Big w vb (V k j)) => mul_big ha hb (nl_bp (k := B) (by omega) b3) (nl_bp (k := B) (by omega) b4))
 have HS := hid (fun (va vb : Value) (w : World) (ha : Big w va (V k k * V i j)) (hb : Big w vb (V i k * V k j)) => sub_big ha hb (nl_bp (k := B + B) (by omega) p1) (nl_bp (k := B + B) (by omega) p2))
 have HD := hid (fun (va vb : Value) (w : World) (ha : Big w va (V k k * V i j - V i k * V k j)) (hb : Big w vb q) => div_big2 ha hb (nl_bp (k := B + B + 1) (by omega) p3) (nl_bp (k := B) (by omega) bq) (by omega))
 obtain ⟨z1, hz1⟩ : ∃ z, V k k = z := ⟨_, rfl⟩
 obtain ⟨z2, hz2⟩ : ∃ z, V i j = z := ⟨_, rfl⟩
 obtain ⟨z3, hz3⟩ : ∃ z, V i k = z := ⟨_, rfl⟩
 obtain ⟨z4, hz4⟩ : ∃ z, V k j = z := ⟨_, rfl⟩
 rw [hz1] at hkk
 rw [hz2] at hij
 rw [hz3] at hik
 rw [hz4] at hkj
 rw [hz1, hz2] at HM1
 rw [hz3, hz4] at HM2
 rw [hz1, hz2, hz3, hz4] at HS HD ⊢
 clear hz1 hz2 hz3 hz4 h1 h2 h3 h4 h5 h6 h7 h8 b1 b2 b3 b4 p1 p2 p3 hBk' hBi' hCk hCi hE bq hsk hB
 obtain ⟨y1, hy1⟩ : ∃ z, z1 * z2 = z := ⟨_, rfl⟩
 rw [hy1] at HM1 HS HD ⊢
 obtain ⟨y2, hy2⟩ : ∃ z, z3 * z4 = z := ⟨_, rfl⟩
 rw [hy2] at HM2 HS HD ⊢
 obtain ⟨y3, hy3⟩ : ∃ z, y1 - y2 = z := ⟨_, rfl⟩
 rw [hy3] at HS HD ⊢
 obtain ⟨y4, hy4⟩ : ∃ z, y3.tdiv q = z := ⟨_, rfl⟩
 rw [hy4] at HD ⊢
 clear hy1 hy2 hy3 hy4 h
 obtain ⟨W0, hW0⟩ : ∃ W0, w.alloc (.cells #[.bool pb, .slice pa pn pc] 59) = W0 := ⟨_, rfl⟩
 have hBp : Blk W0 w.heap.size 59 #[.bool pb, .slice pa pn pc] := by rw [<- hW0]; exact Blk.new _ _ rfl
 have hU : Up w W0 := by rw [<- hW0]; exact Up.alloc _ _
 have hsW : W0.heap.size = w.heap.size + 1 := by rw [<- hW0]; simp
 obtain ⟨W1, hW1⟩ : ∃ W1, W0.alloc (.cells #[.bool false, .slice none 0 0] 59) = W1 := ⟨_, rfl⟩
 have hBr : Blk W1 (w.heap.size + 1) 59 #[.bool false, .slice none 0 0] := by rw [<- hW1]; exact Blk.new _ _ hsW.symm
 have hU1 : Up W0 W1 := by rw [<- hW1]; exact Up.alloc _ _
 have hUw : Up w W1 := hU.trans hU1
 have hBq := hBp.up hU1
 go_enter Tryz.func70, Tryz.ntmps70
 go_upto_region 1 with fail
 clear hW0 hW1 hU hU1 hBp
 refine wp_region_sp2 (n := 50) 38 39 35 36 37 11 12 [14, 15, 16, 17, 18, 19, 20, 21, 22, 23, 24, 25, 26, 27, 28, 29, 30, 31, 32, 33, 34, 35, 36, 37, 38, 39, 40, 41, 42, 43, 44, 45, 46, 13, 47, 48, 11, 12] [SP.is (.slice (some ⟨g, 0, none⟩) n cap), SP.is (.int .i64 (k : Nat)), SP.is (.pointer (some ⟨g, k, none⟩)), SP.is (.slice (some ⟨G k, 0, none⟩) m ck), SP.is (.int .i64 (k : Nat)), SP.is (.pointer (some ⟨G k, k * 2, none⟩)), SP.is (.agg #[.bool bkk, .slice akk nkk ckk]), SP.is (.slice (some ⟨g, 0, none⟩) n cap), SP.is (.int .i64 (i : Nat)), SP.is (.pointer (some ⟨g, i, none⟩)), SP.is (.slice (some ⟨G i, 0, none⟩) m ci), SP.is (.int .i64 (j : Nat)), SP.is (.pointer (some ⟨G i, j * 2, none⟩)), SP.is (.agg #[.bool bij, .slice aij nij cij]), SP.of (fun v w1 => Big w1 v y1) (fun _ _ _ h hu => h.up hu), SP.is (.slice (some ⟨g, 0, none⟩) n cap), SP.is (.int .i64 (i : Nat)), SP.is (.pointer (some ⟨g, i, none⟩)), SP.is (.slice (some ⟨G i, 0, none⟩) m ci), SP.is (.int .i64 (k : Nat)), SP.is (.pointer (some ⟨G i, k * 2, none⟩)), SP.is (.agg #[.bool bik, .slice aik nik cik]), SP.is (.slice (some ⟨g, 0, none⟩) n cap), SP.is (.int .i64 (k : Nat)), SP.is (.pointer (some ⟨g, k, none⟩)), SP.is (.slice (some ⟨G k, 0, none⟩) m ck), SP.is (.int .i64 (j : Nat)), SP.is (.pointer (some ⟨G k, j * 2, none⟩)), SP.is (.agg #[.bool bkj, .slice akj nkj ckj]), SP.of (fun v w1 => Big w1 v y2) (fun _ _ _ h hu => h.up hu), SP.of (fun v w1 => Big w1 v y3) (fun _ _ _ h hu => h.up hu), SP.is (.agg #[.bool pb, .slice pa pn pc]), SP.of (fun v w1 => ∃ b1 a1 n1 c1 b2 a2 n2 c2, v = .tuple #[.agg #[.bool b1, .slice a1 n1 c1], .agg #[.bool b2, .slice a2 n2 c2]] /\ Big w1 (.agg #[.bool b1, .slice a1 n1 c1]) y4) (fun _ _ _ h hu => (by obtain ⟨b1, a1, n1, c1, b2, a2, n2, c2, h1, h2⟩ := h; exact ⟨b1, a1, n1, c1, b2, a2, n2, c2, h1, h2.up hu⟩)), SP.of (fun v w1 => ∃ b1 a1 n1 c1 b2 a2 n2 c2, v = .tuple #[.agg #[.bool b1, .slice a1 n1 c1], .agg #[.bool b2, .slice a2 n2 c2]] /\ Big w1 (.agg #[.bool b1, .slice a1 n1 c1]) y4) (fun _ _ _ h hu => (by obtain ⟨b1, a1, n1, c1, b2, a2, n2, c2, h1, h2⟩ := h; exact ⟨b1, a1, n1, c1, b2, a2, n2, c2, h1, h2.up hu⟩)), SP.of (fun v w1 => Big w1 v y4) (fun _ _ _ h hu => h.up hu), SP.of (fun v _ => ∃ b1 a1 n1 c1, v = .agg #[.bool b1, .slice a1 n1 c1]) (fun _ _ _ h hu => h), SP.of (fun v w1 => ∃ b, v = .pointer (some ⟨b, 0, none⟩) /\ W1.heap.size <= b /\ Blk w1 b 59 #[.bool false, .slice none 0 0]) (fun _ _ _ h hu => h.imp fun _ k => ⟨k.1, k.2.1, k.2.2.up hu⟩), SP.of (fun v w1 => ∃ b, v = .pointer (some ⟨b, 0, none⟩) /\ W1.heap.size <= b /\ Blk w1 b 59 #[.bool false, .slice none 0 0]) (fun _ _ _ h hu => h.imp fun _ k => ⟨k.1, k.2.1, k.2.2.up hu⟩), SP.any, SP.any] (fun wq => Blk wq w.heap.size 59 #[.bool pb, .slice pa pn pc] /\ Up w wq /\ Up W1 wq /\ Below w.heap.size w wq) (by kernel_rfl) (by rfl) (by kernel_rfl) (by kernel_rfl) (fun _ _ h hu => ⟨(h.1).up hu, (h.2.1).trans hu, (h.2.2.1).trans hu, below_up (h.2.2.2) hu⟩) ⟨(by first | assumption | exact gBlk), (by first | exact Up.refl _ | assumption), (by first | exact Up.refl _ | assumption), gUp⟩ ⟨fun i o hi => ⟨by rintro rfl; obtain rfl := oI hi; rfl, by rintro rfl; obtain rfl := oI hi; rfl⟩, (by decide), (fun i v w hi h => by rcases hi with rfl | rfl <;> (obtain ⟨b, rfl, _, h2⟩ := h; exact ⟨b, rfl, h2.lt⟩)), (fun i o ev w hi hk => by rcases hk with rfl | rfl <;> (obtain rfl := oI hi; exact ⟨w.alloc (.cells #[.bool false, .slice none 0 0] 59), by go_simp⟩))⟩ (fun ev w9 hS9 i o hne1 hne2 hi hev => ?_) (fun gR wE hq hJ hSE huE o1 o2 ox ho1 ho2 hox => ?_)
 ·have ⟨hS1, hS2, hS3, hSB⟩ := hS9
  have hcC := hev.const
  have hcF := hev.func
  have hcG := hev.global
  rcases i with _ | _ | _ | _ | _ | _ | _ | _ | _ | _ | _ | _ | _ | _ | _ | _ | _ | _ | _ | _ | _ | _ | _ | _ | _ | _ | _ | _ | _ | _ | _ | _ | _ | _ | _ | _ | _ | _ | _ | _ | i
  ·obtain rfl := oI hi
   have e0 := hev.other 0 (by kernel_rfl)
   simp [Act.eval] at e0
   exact lV (.slice (some ⟨g, 0, none⟩) n cap)
  ·obtain rfl := oI hi
   have e1 := hev.other 1 (by kernel_rfl)
   simp [Act.eval] at e1
   exact lV (.int .i64 (k : Nat))
  ·obtain rfl := oI hi
   have e14 : ev (.tmp 14) = (.slice (some ⟨g, 0, none⟩) n cap) := hev.dep 0 14 (by kernel_rfl)
   have e15 : ev (.tmp 15) = (.int .i64 (k : Nat)) := hev.dep 1 15 (by kernel_rfl)
   exact lV (.pointer (some ⟨g, k, none⟩))
  ·obtain rfl := oI hi
   have e16 : ev (.tmp 16) = (.pointer (some ⟨g, k, none⟩)) := hev.dep 2 16 (by kernel_rfl)
   have hcx := HCk.out w9 (hBg.up hS2); exact leavesR_value (u := .slice (some ⟨G k, 0, none⟩) m ck) (by go_simp) rfl
  ·obtain rfl := oI hi
   have e1 := hev.other 1 (by kernel_rfl)
   simp [Act.eval] at e1
   exact lV (.int .i64 (k : Nat))
  ·obtain rfl := oI hi
   have e17 : ev (.tmp 17) = (.slice (some ⟨G k, 0, none⟩) m ck) := hev.dep 3 17 (by kernel_rfl)
   have e18 : ev (.tmp 18) = (.int .i64 (k : Nat)) := hev.dep 4 18 (by kernel_rfl)
   exact lV (.pointer (some ⟨G k, k * 2, none⟩))
  ·obtain rfl := oI hi
   have e19 : ev (.tmp 19) = (.pointer (some ⟨G k, k * 2, none⟩)) := hev.dep 5 19 (by kernel_rfl)
   exact leavesR_value (run_ldB2 rfl e19 (Hkk.out _ (hBk.up hS2))) rfl
  ·obtain rfl := oI hi
   have e0 := hev.other 0 (by kernel_rfl)
   simp [Act.eval] at e0
   exact lV (.slice (some ⟨g, 0, none⟩) n cap)
  ·obtain rfl := oI hi
   have e2 := hev.other 2 (by kernel_rfl)
   simp [Act.eval] at e2
   exact lV (.int .i64 (i : Nat))
  ·obtain rfl := oI hi
   have e21 : ev (.tmp 21) = (.slice (some ⟨g, 0, none⟩) n cap) := hev.dep 7 21 (by kernel_rfl)
   have e22 : ev (.tmp 22) = (.int .i64 (i : Nat)) := hev.dep 8 22 (by kernel_rfl)
   exact lV (.pointer (some ⟨g, i, none⟩))
  ·obtain rfl := oI hi
   have e23 : ev (.tmp 23) = (.pointer (some ⟨g, i, none⟩)) := hev.dep 9 23 (by kernel_rfl)
   have hcx := HCi.out w9 (hBg.up hS2); exact leavesR_value (u := .slice (some ⟨G i, 0, none⟩) m ci) (by go_simp) rfl
  ·obtain rfl := oI hi
   have e3 := hev.other 3 (by kernel_rfl)
   simp [Act.eval] at e3
   exact lV (.int .i64 (j : Nat))
  ·obtain rfl := oI hi
   have e24 : ev (.tmp 24) = (.slice (some ⟨G i, 0, none⟩) m ci) := hev.dep 10 24 (by kernel_rfl)
   have e25 : ev (.tmp 25) = (.int .i64 (j : Nat)) := hev.dep 11 25 (by kernel_rfl)
   exact lV (.pointer (some ⟨G i, j * 2, none⟩))
  ·obtain rfl := oI hi
   have e26 : ev (.tmp 26) = (.pointer (some ⟨G i, j * 2, none⟩)) := hev.dep 12 26 (by kernel_rfl)
   exact leavesR_value (run_ldB2 rfl e26 (Hij.out _ (hBi.up hS2))) rfl
  ·obtain rfl := oI hi
   have e20 : ev (.tmp 20) = (.agg #[.bool bkk, .slice akk nkk ckk]) := hev.dep 6 20 (by kernel_rfl)
   have e27 : ev (.tmp 27) = (.agg #[.bool bij, .slice aij nij cij]) := hev.dep 13 27 (by kernel_rfl)
   refine leavesR_call ?_ (HM1.out _ _ _ (e20 ▸ hkk.up hS2) (e27 ▸ hij.up hS2))
   go_simp
  ·obtain rfl := oI hi
   have e0 := hev.other 0 (by kernel_rfl)
   simp [Act.eval] at e0
   exact lV (.slice (some ⟨g, 0, none⟩) n cap)
  ·obtain rfl := oI hi
   have e2 := hev.other 2 (by kernel_rfl)
   simp [Act.eval] at e2
   exact lV (.int .i64 (i : Nat))
  ·obtain rfl := oI hi
   have e29 : ev (.tmp 29) = (.slice (some ⟨g, 0, none⟩) n cap) := hev.dep 15 29 (by kernel_rfl)
   have e30 : ev (.tmp 30) = (.int .i64 (i : Nat)) := hev.dep 16 30 (by kernel_rfl)
   exact lV (.pointer (some ⟨g, i, none⟩))
  ·obtain rfl := oI hi
   have e31 : ev (.tmp 31) = (.pointer (some ⟨g, i, none⟩)) := hev.dep 17 31 (by kernel_rfl)
   have hcx := HCi.out w9 (hBg.up hS2); exact leavesR_value (u := .slice (some ⟨G i, 0, none⟩) m ci) (by go_simp) rfl
  ·obtain rfl := oI hi
   have e1 := hev.other 1 (by kernel_rfl)
   simp [Act.eval] at e1
   exact lV (.int .i64 (k : Nat))
  ·obtain rfl := oI hi
   have e32 : ev (.tmp 32) = (.slice (some ⟨G i, 0, none⟩) m ci) := hev.dep 18 32 (by kernel_rfl)
   have e33 : ev (.tmp 33) = (.int .i64 (k : Nat)) := hev.dep 19 33 (by kernel_rfl)
   exact lV (.pointer (some ⟨G i, k * 2, none⟩))
  ·obtain rfl := oI hi
   have e34 : ev (.tmp 34) = (.pointer (some ⟨G i, k * 2, none⟩)) := hev.dep 20 34 (by kernel_rfl)
   exact leavesR_value (run_ldB2 rfl e34 (Hik.out _ (hBi.up hS2))) rfl
  ·obtain rfl := oI hi
   have e0 := hev.other 0 (by kernel_rfl)
   simp [Act.eval] at e0
   exact lV (.slice (some ⟨g, 0, none⟩) n cap)
  ·obtain rfl := oI hi
   have e1 := hev.other 1 (by kernel_rfl)
   simp [Act.eval] at e1
   exact lV (.int .i64 (k : Nat))
  ·obtain rfl := oI hi
   have e36 : ev (.tmp 36) = (.slice (some ⟨g, 0, none⟩) n cap) := hev.dep 22 36 (by kernel_rfl)
   have e37 : ev (.tmp 37) = (.int .i64 (k : Nat)) := hev.dep 23 37 (by kernel_rfl)
   exact lV (.pointer (some ⟨g, k, none⟩))
  ·obtain rfl := oI hi
   have e38 : ev (.tmp 38) = (.pointer (some ⟨g, k, none⟩)) := hev.dep 24 38 (by kernel_rfl)
   have hcx := HCk.out w9 (hBg.up hS2); exact leavesR_value (u := .slice (some ⟨G k, 0, none⟩) m ck) (by go_simp) rfl
  ·obtain rfl := oI hi
   have e3 := hev.other 3 (by kernel_rfl)
   simp [Act.eval] at e3
   exact lV (.int .i64 (j : Nat))
  ·obtain rfl := oI hi
   have e39 : ev (.tmp 39) = (.slice (some ⟨G k, 0, none⟩) m ck) := hev.dep 25 39 (by kernel_rfl)
   have e40 : ev (.tmp 40) = (.int .i64 (j : Nat)) := hev.dep 26 40 (by kernel_rfl)
   exact lV (.pointer (some ⟨G k, j * 2, none⟩))
  ·obtain rfl := oI hi
   have e41 : ev (.tmp 41) = (.pointer (some ⟨G k, j * 2, none⟩)) := hev.dep 27 41 (by kernel_rfl)
   exact leavesR_value (run_ldB2 rfl e41 (Hkj.out _ (hBk.up hS2))) rfl
  ·obtain rfl := oI hi
   have e35 : ev (.tmp 35) = (.agg #[.bool bik, .slice aik nik cik]) := hev.dep 21 35 (by kernel_rfl)
   have e42 : ev (.tmp 42) = (.agg #[.bool bkj, .slice akj nkj ckj]) := hev.dep 28 42 (by kernel_rfl)
   refine leavesR_call ?_ (HM2.out _ _ _ (e35 ▸ hik.up hS2) (e42 ▸ hkj.up hS2))
   go_simp
  ·obtain rfl := oI hi
   have e28 : (fun v w1 => Big w1 v y1) (ev (.tmp 28)) w9 := hev.dep 14 28 (by kernel_rfl)
   dsimp only at e28
   obtain ⟨v28, hv28⟩ : ∃ v, ev (.tmp 28) = v := ⟨_, rfl⟩
   rw [hv28] at e28
   have e43 : (fun v w1 => Big w1 v y2) (ev (.tmp 43)) w9 := hev.dep 29 43 (by kernel_rfl)
   dsimp only at e43
   obtain ⟨v43, hv43⟩ : ∃ v, ev (.tmp 43) = v := ⟨_, rfl⟩
   rw [hv43] at e43
   refine leavesR_call ?_ (HS.out _ _ _ e28 e43)
   go_simp
  ·obtain rfl := oI hi
   have e9 := hev.other 9 (by kernel_rfl)
   simp [Act.eval] at e9
   exact leavesR_value (run_ldBR rfl (by go_simp) hS1 rfl) rfl
  ·obtain rfl := oI hi
   have e44 : (fun v w1 => Big w1 v y3) (ev (.tmp 44)) w9 := hev.dep 30 44 (by kernel_rfl)
   dsimp only at e44
   obtain ⟨v44, hv44⟩ : ∃ v, ev (.tmp 44) = v := ⟨_, rfl⟩
   rw [hv44] at e44
   have e45 : ev (.tmp 45) = (.agg #[.bool pb, .slice pa pn pc]) := hev.dep 31 45 (by kernel_rfl)
   refine leavesR_call ?_ ((HD.out _ _ _ e44 (e45 ▸ hp.up hS2)).mono fun _ _ h => ⟨h.1, by obtain ⟨_, v, h0, b1, a1, n1, c1, b2, a2, n2, c2, h1, h2, _⟩ := h; exact ⟨v, h0, b1, a1, n1, c1, b2, a2, n2, c2, h1, h2⟩⟩)
   go_simp
  ·obtain rfl := oI hi
   have e46 : (fun v w1 => ∃ b1 a1 n1 c1 b2 a2 n2 c2, v = .tuple #[.agg #[.bool b1, .slice a1 n1 c1], .agg #[.bool b2, .slice a2 n2 c2]] /\ Big w1 (.agg #[.bool b1, .slice a1 n1 c1]) y4) (ev (.tmp 46)) w9 := hev.dep 32 46 (by kernel_rfl)
   dsimp only at e46
   obtain ⟨v46, hv46⟩ : ∃ v, ev (.tmp 46) = v := ⟨_, rfl⟩
   rw [hv46] at e46
   obtain ⟨b1, a1, n1, c1, b2, a2, n2, c2, rfl, h2⟩ := e46; exact leavesR_value (u := .tuple #[.agg #[.bool b1, .slice a1 n1 c1], .agg #[.bool b2, .slice a2 n2 c2]]) (by go_simp) ⟨_, _, _, _, _, _, _, _, rfl, h2⟩
  ·obtain rfl := oI hi
   have e13 : (fun v w1 => ∃ b1 a1 n1 c1 b2 a2 n2 c2, v = .tuple #[.agg #[.bool b1, .slice a1 n1 c1], .agg #[.bool b2, .slice a2 n2 c2]] /\ Big w1 (.agg #[.bool b1, .slice a1 n1 c1]) y4) (ev (.tmp 13)) w9 := hev.dep 33 13 (by kernel_rfl)
   dsimp only at e13
   obtain ⟨v13, hv13⟩ : ∃ v, ev (.tmp 13) = v := ⟨_, rfl⟩
   rw [hv13] at e13
   obtain ⟨b1, a1, n1, c1, b2, a2, n2, c2, rfl, h2⟩ := e13; exact leavesR_value (u := .agg #[.bool b1, .slice a1 n1 c1]) (by go_simp) h2
  ·obtain rfl := oI hi
   have e13 : (fun v w1 => ∃ b1 a1 n1 c1 b2 a2 n2 c2, v = .tuple #[.agg #[.bool b1, .slice a1 n1 c1], .agg #[.bool b2, .slice a2 n2 c2]] /\ Big w1 (.agg #[.bool b1, .slice a1 n1 c1]) y4) (ev (.tmp 13)) w9 := hev.dep 33 13 (by kernel_rfl)
   dsimp only at e13
   obtain ⟨v13, hv13⟩ : ∃ v, ev (.tmp 13) = v := ⟨_, rfl⟩
   rw [hv13] at e13
   obtain ⟨b1, a1, n1, c1, b2, a2, n2, c2, rfl, h2⟩ := e13; exact leavesR_value (u := .agg #[.bool b2, .slice a2 n2 c2]) (by go_simp) ⟨_, _, _, _, rfl⟩
  ·obtain rfl := oI hi
   exact leavesR_up (u := .pointer (some ⟨w9.heap.size, 0, none⟩)) (w' := w9.alloc (.cells #[.bool false, .slice none 0 0] 59)) (by go_simp) (Up.alloc _ _) ⟨_, rfl, hS3.size, Blk.new _ _ rfl⟩
  ·obtain rfl := oI hi
   exact leavesR_up (u := .pointer (some ⟨w9.heap.size, 0, none⟩)) (w' := w9.alloc (.cells #[.bool false, .slice none 0 0] 59)) (by go_simp) (Up.alloc _ _) ⟨_, rfl, hS3.size, Blk.new _ _ rfl⟩
  ·exact absurd rfl hne1
  ·exact absurd rfl hne2
  ·exact absurd (show i + 40 < 40 from (Array.getElem?_eq_some_iff.1 hi).1) (by omega)
 have ⟨hS1, hS2, hS3, hSB⟩ := hSE
 have q0 : gR 14 = (.slice (some ⟨g, 0, none⟩) n cap) := hq 0 14 (by decide) (by decide) (by decide) (by kernel_rfl)
 have q1 : gR 15 = (.int .i64 (k : Nat)) := hq 1 15 (by decide) (by decide) (by decide) (by kernel_rfl)
 have q2 : gR 16 = (.pointer (some ⟨g, k, none⟩)) := hq 2 16 (by decide) (by decide) (by decide) (by kernel_rfl)
 have q3 : gR 17 = (.slice (some ⟨G k, 0, none⟩) m ck) := hq 3 17 (by decide) (by decide) (by decide) (by kernel_rfl)
 have q4 : gR 18 = (.int .i64 (k : Nat)) := hq 4 18 (by decide) (by decide) (by decide) (by kernel_rfl)
 have q5 : gR 19 = (.pointer (some ⟨G k, k * 2, none⟩)) := hq 5 19 (by decide) (by decide) (by decide) (by kernel_rfl)
 have q6 : gR 20 = (.agg #[.bool bkk, .slice akk nkk ckk]) := hq 6 20 (by decide) (by decide) (by decide) (by kernel_rfl)
 have q7 : gR 21 = (.slice (some ⟨g, 0, none⟩) n cap) := hq 7 21 (by decide) (by decide) (by decide) (by kernel_rfl)
 have q8 : gR 22 = (.int .i64 (i : Nat)) := hq 8 22 (by decide) (by decide) (by decide) (by kernel_rfl)
 have q9 : gR 23 = (.pointer (some ⟨g, i, none⟩)) := hq 9 23 (by decide) (by decide) (by decide) (by kernel_rfl)
 have q10 : gR 24 = (.slice (some ⟨G i, 0, none⟩) m ci) := hq 10 24 (by decide) (by decide) (by decide) (by kernel_rfl)
 have q11 : gR 25 = (.int .i64 (j : Nat)) := hq 11 25 (by decide) (by decide) (by decide) (by kernel_rfl)
 have q12 : gR 26 = (.pointer (some ⟨G i, j * 2, none⟩)) := hq 12 26 (by decide) (by decide) (by decide) (by kernel_rfl)
 have q13 : gR 27 = (.agg #[.bool bij, .slice aij nij cij]) := hq 13 27 (by decide) (by decide) (by decide) (by kernel_rfl)
 have q14 : (fun v w1 => Big w1 v y1) (gR 28) wE := hq 14 28 (by decide) (by decide) (by decide) (by kernel_rfl)
 dsimp only at q14
 obtain ⟨v28, hv28⟩ : ∃ v, gR 28 = v := ⟨_, rfl⟩
 rw [hv28] at q14
 have q15 : gR 29 = (.slice (some ⟨g, 0, none⟩) n cap) := hq 15 29 (by decide) (by decide) (by decide) (by kernel_rfl)
 have q16 : gR 30 = (.int .i64 (i : Nat)) := hq 16 30 (by decide) (by decide) (by decide) (by kernel_rfl)
 have q17 : gR 31 = (.pointer (some ⟨g, i, none⟩)) := hq 17 31 (by decide) (by decide) (by decide) (by kernel_rfl)
 have q18 : gR 32 = (.slice (some ⟨G i, 0, none⟩) m ci) := hq 18 32 (by decide) (by decide) (by decide) (by kernel_rfl)
 have q19 : gR 33 = (.int .i64 (k : Nat)) := hq 19 33 (by decide) (by decide) (by decide) (by kernel_rfl)
 have q20 : gR 34 = (.pointer (some ⟨G i, k * 2, none⟩)) := hq 20 34 (by decide) (by decide) (by decide) (by kernel_rfl)
 have q21 : gR 35 = (.agg #[.bool bik, .slice aik nik cik]) := hq 21 35 (by decide) (by decide) (by decide) (by kernel_rfl)
 have q22 : gR 36 = (.slice (some ⟨g, 0, none⟩) n cap) := hq 22 36 (by decide) (by decide) (by decide) (by kernel_rfl)
 have q23 : gR 37 = (.int .i64 (k : Nat)) := hq 23 37 (by decide) (by decide) (by decide) (by kernel_rfl)
 have q24 : gR 38 = (.pointer (some ⟨g, k, none⟩)) := hq 24 38 (by decide) (by decide) (by decide) (by kernel_rfl)
 have q25 : gR 39 = (.slice (some ⟨G k, 0, none⟩) m ck) := hq 25 39 (by decide) (by decide) (by decide) (by kernel_rfl)
 have q26 : gR 40 = (.int .i64 (j : Nat)) := hq 26 40 (by decide) (by decide) (by decide) (by kernel_rfl)
 have q27 : gR 41 = (.pointer (some ⟨G k, j * 2, none⟩)) := hq 27 41 (by decide) (by decide) (by decide) (by kernel_rfl)
 have q28 : gR 42 = (.agg #[.bool bkj, .slice akj nkj ckj]) := hq 28 42 (by decide) (by decide) (by decide) (by kernel_rfl)
 have q29 : (fun v w1 => Big w1 v y2) (gR 43) wE := hq 29 43 (by decide) (by decide) (by decide) (by kernel_rfl)
 dsimp only at q29
 obtain ⟨v43, hv43⟩ : ∃ v, gR 43 = v := ⟨_, rfl⟩
 rw [hv43] at q29
 have q30 : (fun v w1 => Big w1 v y3) (gR 44) wE := hq 30 44 (by decide) (by decide) (by decide) (by kernel_rfl)
 dsimp only at q30
 obtain ⟨v44, hv44⟩ : ∃ v, gR 44 = v := ⟨_, rfl⟩
 rw [hv44] at q30
 have q31 : gR 45 = (.agg #[.bool pb, .slice pa pn pc]) := hq 31 45 (by decide) (by decide) (by decide) (by kernel_rfl)
 have q32 : (fun v w1 => ∃ b1 a1 n1 c1 b2 a2 n2 c2, v = .tuple #[.agg #[.bool b1, .slice a1 n1 c1], .agg #[.bool b2, .slice a2 n2 c2]] /\ Big w1 (.agg #[.bool b1, .slice a1 n1 c1]) y4) (gR 46) wE := hq 32 46 (by decide) (by decide) (by decide) (by kernel_rfl)
 dsimp only at q32
 obtain ⟨v46, hv46⟩ : ∃ v, gR 46 = v := ⟨_, rfl⟩
 rw [hv46] at q32
 have q33 : (fun v w1 => ∃ b1 a1 n1 c1 b2 a2 n2 c2, v = .tuple #[.agg #[.bool b1, .slice a1 n1 c1], .agg #[.bool b2, .slice a2 n2 c2]] /\ Big w1 (.agg #[.bool b1, .slice a1 n1 c1]) y4) (gR 13) wE := hq 33 13 (by decide) (by decide) (by decide) (by kernel_rfl)
 dsimp only at q33
 obtain ⟨v13, hv13⟩ : ∃ v, gR 13 = v := ⟨_, rfl⟩
 rw [hv13] at q33
 have q34 : (fun v w1 => Big w1 v y4) (gR 47) wE := hq 34 47 (by decide) (by decide) (by decide) (by kernel_rfl)
 dsimp only at q34
 obtain ⟨v47, hv47⟩ : ∃ v, gR 47 = v := ⟨_, rfl⟩
 rw [hv47] at q34
 have q36 : (fun v w1 => ∃ b, v = .pointer (some ⟨b, 0, none⟩) /\ W1.heap.size <= b /\ Blk w1 b 59 #[.bool false, .slice none 0 0]) (gR 11) wE := hq 36 11 (by decide) (by decide) (by decide) (by kernel_rfl)
 dsimp only at q36
 obtain ⟨v11, hv11⟩ : ∃ v, gR 11 = v := ⟨_, rfl⟩
 rw [hv11] at q36
 have q37 : (fun v w1 => ∃ b, v = .pointer (some ⟨b, 0, none⟩) /\ W1.heap.size <= b /\ Blk w1 b 59 #[.bool false, .slice none 0 0]) (gR 12) wE := hq 37 12 (by decide) (by decide) (by decide) (by kernel_rfl)
 dsimp only at q37
 obtain ⟨v12, hv12⟩ : ∃ v, gR 12 = v := ⟨_, rfl⟩
 rw [hv12] at q37
 obtain rfl := oI ho1
 obtain rfl := oI ho2
 obtain rfl := oI hox
 rw [hv11, hv12] at hJ
 simp only [putL, List.map_cons, List.map_nil, q0, q1, q2, q3, q4, q5, q6, q7, q8, q9, q10, q11, q12, q13, hv28, q15, q16, q17, q18, q19, q20, q21, q22, q23, q24, q25, q26, q27, q28, hv43, hv44, q31, hv46, hv13, hv47, hv11, hv12, Act.put, pu1, pu2, pu3]
 clear hq hSE q0 q1 q2 q3 q4 q5 q6 q7 q8 q9 q10 q11 q12 q13 q15 q16 q17 q18 q19 q20 q21 q22 q23 q24 q25 q26 q27 q28 q31
 obtain ⟨b4, a4, m4, c4, rfl⟩ := q34.shape
 obtain ⟨z1, rfl, hz1, hBz1⟩ := q36
 obtain ⟨z2, rfl, hz2, hBz2⟩ := q37
 have hne : z2 ≠ z1 := fun e => hJ (by rw [e])
 have hsz : w.heap.size + 1 < W1.heap.size := hBr.lt
 have g1 := hBz1.setRow #[.bool b4, .slice a4 m4 c4]
 have g2 := big_set (D := #[.bool b4, .slice a4 m4 c4]) hBz1 q34
 have g3 := Blk.row_other hBz2 #[.bool b4, .slice a4 m4 c4] hne
 have g4 := Blk.row_other (hBr.up hS3) #[.bool b4, .slice a4 m4 c4] (show w.heap.size + 1 ≠ z1 by omega)
 have g5 : Up w _ := below_setRow hS2 (show w.heap.size <= z1 by omega) #[.bool b4, .slice a4 m4 c4]
 refine ⟨fun hx => ?_, ?_⟩
 ·obtain ⟨b5, a5, m5, c5, h5⟩ := hx 48 rfl
  rw [h5]
  refine wp_stB rfl rfl rfl rfl hBz1 rfl rfl (one2 _ _ _ _) ?_
  refine wp_stB rfl rfl rfl rfl g3 rfl rfl (one2 _ _ _ _) ?_
  have k1 := Blk.row_other g1 #[.bool b5, .slice a5 m5 c5] (Ne.symm hne)
  have k2 := big_set (D := #[.bool b5, .slice a5 m5 c5]) g3 g2
  have k4 := Blk.row_other g4 #[.bool b5, .slice a5 m5 c5] (show w.heap.size + 1 ≠ z2 by omega)
  have k5 : Up w _ := below_setRow g5 (show w.heap.size <= z2 by omega) #[.bool b5, .slice a5 m5 c5]
  obtain ⟨wK, hwK⟩ : ∃ wK, (wE.setRow z1 #[.bool b4, .slice a4 m4 c4]).setRow z2 #[.bool b5, .slice a5 m5 c5] = wK := ⟨_, rfl⟩
  rw [hwK] at k1 k2 k4 k5 ⊢
  clear hwK g1 g2 g3 g4 g5 hS1 hS2 hS3 hSB huE hBz1 hBz2 q14 q29 q30 q32 q33 q34 hx
  go_wp2_with (first
   | ((with_reducible apply ldB_P); exact rfl; exact rfl; exact k1; exact rfl)
   | ((with_reducible apply stB_P); exact rfl; exact rfl; exact k4; exact rfl; exact rfl; exact one2 _ _ _ _
      refine wpL_folded (fun wd => Up w wd /\ Blk wd (w.heap.size + 1) 59 #[.bool b4, .slice a4 m4 c4] /\ Big wd (.agg #[.bool b4, .slice a4 m4 c4]) y4) ⟨below_setRow k5 (by omega) _, Blk.setRow k4 _, big_set k4 k2⟩ ?_
      rintro w6 ⟨j5, j4, j2⟩))
  exact bodyPost_ret (resB rfl rfl j4 rfl) rfl ⟨j5, _, rfl, j2⟩
 ·obtain ⟨b1, a1, m1, c1, b2, a2, m2, c2, rfl, -⟩ := q33
  refine wp_stB rfl rfl rfl rfl hBz1 rfl rfl (one2 _ _ _ _) ?_
  refine wp_val (v := .agg #[.bool b2, .slice a2 m2 c2]) (by go_simp) ?_
  refine wp_stB rfl rfl rfl rfl g3 rfl rfl (one2 _ _ _ _) ?_
  have k1 := Blk.row_other g1 #[.bool b2, .slice a2 m2 c2] (Ne.symm hne)
  have k2 := big_set (D := #[.bool b2, .slice a2 m2 c2]) g3 g2
  have k4 := Blk.row_other g4 #[.bool b2, .slice a2 m2 c2] (show w.heap.size + 1 ≠ z2 by omega)
  have k5 : Up w _ := below_setRow g5 (show w.heap.size <= z2 by omega) #[.bool b2, .slice a2 m2 c2]
  obtain ⟨wK, hwK⟩ : ∃ wK, (wE.setRow z1 #[.bool b4, .slice a4 m4 c4]).setRow z2 #[.bool b2, .slice a2 m2 c2] = wK := ⟨_, rfl⟩
  rw [hwK] at k1 k2 k4 k5 ⊢
  clear hwK g1 g2 g3 g4 g5 hS1 hS2 hS3 hSB huE hBz1 hBz2 q14 q29 q30 q32 q34
  go_wp2_with (first
   | ((with_reducible apply ldB_P); exact rfl; exact rfl; exact k1; exact rfl)
   | ((with_reducible apply stB_P); exact rfl; exact rfl; exact k4; exact rfl; exact rfl; exact one2 _ _ _ _
      refine wpL_folded (fun wd => Up w wd /\ Blk wd (w.heap.size + 1) 59 #[.bool b4, .slice a4 m4 c4] /\ Big wd (.agg #[.bool b4, .slice a4 m4 c4]) y4) ⟨below_setRow k5 (by omega) _, Blk.setRow k4 _, big_set k4 k2⟩ ?_
      rintro w6 ⟨j5, j4, j2⟩))
  exact bodyPost_ret (resB rfl rfl j4 rfl) rfl ⟨j5, _, rfl, j2⟩
theorem rsign_big {v : Value} {z : Int} {w : World} (h : Big w v z) : Calls Tryz.prog 52 #[v] w fun r w' => r = .returned (.int .i64 (sgn z)) /\ Up w w' := by
 obtain ⟨a, c, rfl, -⟩ := h
 rw [<- sgn_big]
 exact bsign_any _ _ _ _ _
theorem OwnB.blk {w : World} {b : Nat} {v : Value} {l : List Int} (h : OwnB w b v l) : ∀ k, v.ownBlock = some k -> b <= k /\ k < w.heap.size /\ ∃ C, Blk w k 59 C := by
 intro k hk
 obtain ⟨xs, hx, _⟩ := h
 have hlt := World.ownsRow.lt hx k hk
 obtain ⟨_, ⟨rfl, _⟩ | ⟨g', cap, cur, rfl, _, hB, _⟩⟩ := hx
 ·simp [Value.ownBlock] at hk
 ·simp [Value.ownBlock] at hk; subst hk; exact ⟨hlt.1, hlt.2, cur, hB⟩
theorem OwnB.lower {w : World} {b g : Nat} {v : Value} {l : List Int} {C : Array Value} (h : OwnB w b v l) (hC : Blk w g 59 C) (D : Array Value) (hg : g < b) : OwnB (w.setRow g D) b v l := by
 obtain ⟨xs, ⟨h0, h1⟩, h2⟩ := h
 refine ⟨xs, ⟨h0, ?_⟩, fun i hi => ?_⟩
 ·rcases h1 with h1 | ⟨g', cap, cur, hv, hb, hB, hr⟩
  ·exact .inl h1
  ·exact .inr ⟨g', cap, cur, hv, hb, Blk.row_other (w := w) hB _ (by omega), hr⟩
 ·obtain ⟨b', a, n, c, e1, e2, e3⟩ := h2 i hi
  exact ⟨b', a, n, c, e1, e2, e3.setRow hC⟩
theorem OwnM.otherB {w : World} {base n m p : Nat} {v : Value} {G : Nat -> Nat} {V : Nat -> Nat -> Int} {C : Array Value} (h : OwnM w base v n m G V) (hC : Blk w p 59 C) (D : Array Value) (hp : ∀ i, i < n -> G i ≠ p) : OwnM (w.setRow p D) base v n m G V := by
 obtain ⟨xs, ⟨h0, h1⟩, h2, h3, h4⟩ := h
 refine ⟨xs, ⟨h0, ?_⟩, h2, fun i hi => ⟨(h3 i hi).1, (h3 i hi).2.other hC _ (hp i hi)⟩, h4⟩
 rcases h1 with h1 | ⟨g', cap, cur, hv, hb, hB, hr⟩
 ·exact .inl h1
 ·refine .inr ⟨g', cap, cur, hv, hb, Blk.row_other (w := w) hB _ fun e => ?_, hr⟩
  subst e
  unfold Blk at hC
  rw [hC] at hB
  simp at hB
theorem OwnM.grownB {w w' : World} {base n m : Nat} {v : Value} {G : Nat -> Nat} {V : Nat -> Nat -> Int} {row : Option Nat} (h : OwnM w base v n m G V) (hg : w.grownBy w' row) (hr : ∀ k, row = some k -> (∃ C, Blk w k 59 C) /\ ∀ i, i < n -> G i ≠ k) : OwnM w' base v n m G V := by
 obtain ⟨xs, ⟨h0, h1⟩, h2, h3, h4⟩ := h
 refine ⟨xs, ⟨h0, ?_⟩, h2, fun i hi => ⟨(h3 i hi).1, ?_⟩, h4⟩
 ·rcases h1 with h1 | ⟨g', cap, cur, hv, hb, hB, hq⟩
  ·exact .inl h1
  ·refine .inr ⟨g', cap, cur, hv, hb, Blk.grown hB hg fun e => ?_, hq⟩
   obtain ⟨C, hC⟩ := (hr g' e).1
   unfold Blk at hC
   rw [hC] at hB
   simp at hB
 ·obtain ⟨C, e1, e2, e3⟩ := (h3 i hi).2
  refine ⟨C, e1.grown hg fun e => (hr _ e).2 i hi rfl, e2, fun j hj => ?_⟩
  obtain ⟨b, a, k, c, e4, e5, e6⟩ := e3 j hj
  exact ⟨b, a, k, c, e4, e5, e6.grown hg fun k hk => (hr k hk).1⟩
structure MI (w : World) (base bP bO n : Nat) (av : Value) (G : Nat -> Nat) (b0 : Bool) (p0 : Option Addr) (n0 c0 : Nat) (q : Int) (tv : Value) (L : List Int) (V : Nat -> Nat -> Int) (wr : World) : Prop where
 m : OwnM wr base av n n G V
 p : Blk wr bP 59 #[.bool b0, .slice p0 n0 c0]
 q : Big wr (.agg #[.bool b0, .slice p0 n0 c0]) q
 l : OwnB wr bO tv L
 u : Below base w wr
theorem MI.up {w : World} {base bP bO n : Nat} {av : Value} {G : Nat -> Nat} {b0 : Bool} {p0 : Option Addr} {n0 c0 : Nat} {q : Int} {tv : Value} {L : List Int} {V : Nat -> Nat -> Int} {wr wr' : World} (h : MI w base bP bO n av G b0 p0 n0 c0 q tv L V wr) (hu : Up wr wr') (hb : base <= w.heap.size) : MI w base bP bO n av G b0 p0 n0 c0 q tv L V wr' :=
 ⟨h.m.up hu, h.p.up hu, h.q.up hu, h.l.up hu, hu.below h.u (Nat.le_trans hb h.u.size)⟩
theorem MI.set {w : World} {base bP bO n : Nat} {av : Value} {G : Nat -> Nat} {b0 : Bool} {p0 : Option Addr} {n0 c0 : Nat} {q : Int} {tv : Value} {L : List Int} {V : Nat -> Nat -> Int} {wr : World} (h : MI w base bP bO n av G b0 p0 n0 c0 q tv L V wr) {i j : Nat} (hi : i < n) (hj : j < n) (hG : ∀ q, q < n -> G q < bP) (hPO : bP < bO)
   {C : Array Value} (hC : Blk wr (G i) 59 C) {b : Bool} {p : Option Addr} {k c : Nat} {z : Int} (hz : Big wr (.agg #[.bool b, .slice p k c]) z) :
   MI w base bP bO n av G b0 p0 n0 c0 q tv L (upd2 V i j z) (wr.setRow (G i) (splB C (j * 2) [.bool b, .slice p k c])) := by
 have hg := hG i hi
 have hb : base <= G i := by obtain ⟨_, _, _, h3, _⟩ := h.m; exact (h3 i hi).1
 exact ⟨(h.m.set hi hj hC hz).1, Blk.row_other h.p _ (by omega), h.q.setRow hC, h.l.lower hC _ (by omega), below_setRow h.u hb _⟩
def At1 (n k : Nat) (q : Int) (M : Nat -> Nat -> Int) (i j : Nat) (V : Nat -> Nat -> Int) : Prop :=
 ∀ r c, k <= r -> r < n -> k <= c -> c < n -> V r c = if k + 1 <= r /\ k + 1 <= c /\ (r < i \/ r = i /\ c < j) then nxt q M (r - (k + 1)) (c - (k + 1)) else M (r - k) (c - k)
theorem At1.start {n k : Nat} {q : Int} {M V : Nat -> Nat -> Int} (h : ∀ r c, k <= r -> r < n -> k <= c -> c < n -> V r c = M (r - k) (c - k)) : At1 n k q M (k + 1) (k + 1) V := fun r c h1 h2 h3 h4 => by
 rw [if_neg (by omega)]; exact h r c h1 h2 h3 h4
theorem At1.row {n k i : Nat} {q : Int} {M V : Nat -> Nat -> Int} (h : At1 n k q M i n V) : At1 n k q M (i + 1) (k + 1) V := fun r c h1 h2 h3 h4 => by
 rw [h r c h1 h2 h3 h4]
 by_cases e : k + 1 <= r /\ k + 1 <= c /\ (r < i \/ r = i /\ c < n)
 ·rw [if_pos e, if_pos (by omega)]
 ·rw [if_neg e, if_neg (by omega)]
theorem At1.all {n k : Nat} {q : Int} {M V : Nat -> Nat -> Int} (h : At1 n k q M n (k + 1) V) : ∀ r c, k + 1 <= r -> r < n -> k + 1 <= c -> c < n -> V r c = nxt q M (r - (k + 1)) (c - (k + 1)) := fun r c h1 h2 h3 h4 => by
 rw [h r c (by omega) h2 (by omega) h4, if_pos (by omega)]
theorem At1.old {n k i j : Nat} {q : Int} {M V : Nat -> Nat -> Int} (h : At1 n k q M i j V) {r c : Nat} (h1 : k <= r) (h2 : r < n) (h3 : k <= c) (h4 : c < n) (e : ¬ (k + 1 <= r /\ k + 1 <= c /\ (r < i \/ r = i /\ c < j))) : V r c = M (r - k) (c - k) := by
 rw [h r c h1 h2 h3 h4, if_neg e]
theorem At1.step {n k i j : Nat} {q : Int} {M V : Nat -> Nat -> Int} (h : At1 n k q M i j V) (hi : k + 1 <= i) (hin : i < n) (hj : k + 1 <= j) (hjn : j < n) : (V k k * V i j - V i k * V k j).tdiv q = nxt q M (i - (k + 1)) (j - (k + 1)) := by
 rw [h.old (r := k) (c := k) (by omega) (by omega) (by omega) (by omega) (by omega), h.old (r := i) (c := j) (by omega) (by omega) (by omega) (by omega) (by omega), h.old (r := i) (c := k) (by omega) (by omega) (by omega) (by omega) (by omega), h.old (r := k) (c := j) (by omega) (by omega) (by omega) (by omega) (by omega)]
 unfold nxt chio
 rw [Nat.sub_self, show i - (k + 1) + 1 = i - k by omega, show j - (k + 1) + 1 = j - k by omega]
theorem At1.set {n k i j : Nat} {q : Int} {M V : Nat -> Nat -> Int} (h : At1 n k q M i j V) (hi : k + 1 <= i) (hj : k + 1 <= j) : At1 n k q M i (j + 1) (upd2 V i j (nxt q M (i - (k + 1)) (j - (k + 1)))) := fun r c h1 h2 h3 h4 => by
 unfold upd2
 by_cases e : r = i /\ c = j
 ·rw [if_pos e, e.1, e.2, if_pos (by omega)]
 ·rw [if_neg e, h r c h1 h2 h3 h4]
  by_cases e2 : k + 1 <= r /\ k + 1 <= c /\ (r < i \/ r = i /\ c < j)
  ·rw [if_pos e2, if_pos (by omega)]
  ·rw [if_neg e2, if_neg (by omega)]
def e0 : Nat -> Int := fun c => if c = 0 then 1 else 0
def one0 (A : Nat -> Nat -> Int) : Nat -> Nat -> Int := updR A 0 fun c => 1 * A 0 c + (1 - A 0 0) * e0 c
def prodN : Nat -> (Nat -> Nat) -> Nat
 | 0, _ => 1
 | n + 1, f => f 0 * prodN n fun i => f (i + 1)
def cb (n j : Nat) : Nat := if j = n then 72057594037927936 else 1073741824
def AV (n : Nat) (l v : List Int) : Nat -> Nat -> Int := fun i j =>
 if i < n then (if j < n then ent n l i j else if j = n then zth v i else 0) else if i = j + n then -1 else 0
def bv (k r : Nat) : Nat := fct (r + k + 1) * (1073741824 ^ (r + k) * 72057594037927936)
def SV (q : Int) (k : Nat) (M : Nat -> Nat -> Int) : Prop := Good q (bv k) M /\ 0 < q /\ q.natAbs < bp 5
def gs (A : Nat -> Nat -> Int) : Nat -> Int × (Nat -> Nat -> Int)
 | 0 => (1, A)
 | k + 1 => ((gs A k).2 0 0, nxt (gs A k).1 (gs A k).2)
structure Def (n : Nat) (l v : List Int) : Prop where
 right : rt n l = true
 pos : ∀ x ∈ mins n 1 (AM n l), 0 < x
 vec : ∀ i, (zth v i).natAbs <= 72057594037927936
def slX (n : Nat) (l v : List Int) (i : Nat) : Int := (gs (AV n l v) n).2 i 0
def slD (n : Nat) (l : List Int) : Int := det n (AM n l)
def Win (n s : Nat) (L : List (List Int)) (M : Nat -> Nat -> Int) : Prop := L.length = n /\ ∀ i, i < n -> (L.getD i []).length = s + 1 /\ ∀ j, j < s + 1 -> zth (L.getD i []) j = M i j
def turn (q : Int) (s : Nat) (L : List (List Int)) : List (List Int) := ((L.drop 1).map fun R => tk (L.getD 0 []) R q (s + 1)) ++ [(L.getD 0 []).drop 1]
def zz (n : Nat) (l v : List Int) (c : Nat) : Int := if c < n then slX n l v c else -(slD n l)
def Run (B n : Nat) (A : Nat -> Nat -> Int) : Prop := ∀ k, k < n -> (∀ j, j < k -> 0 < (gs A j).2 0 0) -> 0 < (gs A k).1 /\ (gs A k).1.natAbs < bp B /\ ∀ i j, ((gs A k).2 i j).natAbs < bp B
theorem mins_succ (s : Nat) (q : Int) (M : Nat -> Nat -> Int) : mins (s + 1) q M = M 0 0 :: (if 0 < M 0 0 then mins s (M 0 0) (nxt q M) else []) := rfl
def Left (n k : Nat) (M V : Nat -> Nat -> Int) : Prop := ∀ r c, k <= r -> r < n -> k <= c -> c < n -> V r c = M (r - k) (c - k)
theorem Left.start {n : Nat} {A V : Nat -> Nat -> Int} (h : ∀ i j, i < n -> j < n -> V i j = A i j) : Left n 0 A V := fun r c _ h2 _ h4 => h r c h2 h4
theorem MI.app {w : World} {base bP bO n : Nat} {av : Value} {G : Nat -> Nat} {b0 : Bool} {p0 : Option Addr} {n0 c0 : Nat} {q z : Int} {tv : Value} {L : List Int} {V : Nat -> Nat -> Int} {wr w' : World} {v' : Value} (h : MI w base bP bO n av G b0 p0 n0 c0 q tv L V wr) (hG : ∀ q, q < n -> G q < bP) (hPO : bP < bO) (hb : base <= bO)
   (hO : OwnB w' bO v' (L ++ [z])) (hg : wr.grownBy w' tv.ownBlock) (hB : Below bO wr w') : MI w base bP bO n av G b0 p0 n0 c0 q v' (L ++ [z]) V w' :=
 ⟨h.m.grownB hg fun k hk => ⟨(h.l.blk k hk).2.2, fun i hi => by have h1 := (h.l.blk k hk).1; have h2 := hG i hi; omega⟩, Blk.below h.p hB hPO, h.q.grown hg fun k hk => (h.l.blk k hk).2.2, hO, Below.trans h.u (Below.mono hB hb)⟩
theorem MI.prev {w : World} {base bP bO n : Nat} {av : Value} {G : Nat -> Nat} {b0 b : Bool} {p0 p : Option Addr} {n0 c0 m c : Nat} {q z : Int} {tv : Value} {L : List Int} {V : Nat -> Nat -> Int} {wr : World} (h : MI w base bP bO n av G b0 p0 n0 c0 q tv L V wr) (hG : ∀ q, q < n -> G q < bP) (hPO : bP < bO) (hb : base <= bP)
   (hz : Big wr (.agg #[.bool b, .slice p m c]) z) : MI w base bP bO n av G b p m c z tv L V (wr.setRow bP #[.bool b, .slice p m c]) :=
 ⟨h.m.otherB h.p _ fun i hi => by have h2 := hG i hi; omega, h.p.setRow _, hz.setRow h.p, h.l.lower h.p _ hPO, below_setRow h.u hb _⟩
set_option maxHeartbeats 16000000 in
theorem rminors_any {w : World} {base n B : Nat} {av : Value} {G : Nat -> Nat} {V : Nat -> Nat -> Int} (h : OwnM w base av n n G V) (hn : n <= 8) (hB : B <= 100) (hR : Run B n V) (hb : base <= w.heap.size) :
   Calls Tryz.prog 51 #[av] w fun r w' => ∃ z, r = .returned z /\ Below base w w' /\ Bv w' z (mins n 1 V) := by
 obtain ⟨pA, cA, rfl⟩ := h.slice
 have HO1 := hid (fun w => of_big 1 (by decide) (by decide) w)
 have HGl := hid (fun q (hq : q < n) => show G q < w.heap.size from by obtain ⟨_, _, _, h3, _⟩ := h; exact (h3 q hq).2.lt)
 have HR := hid hR
 obtain ⟨T, hT⟩ : ∃ T, mins n 1 V = T := ⟨_, rfl⟩
 have HT := hid hT
 rw [hT]
 have HM := hid h
 clear hT hR h
 go_enter Tryz.func51, Tryz.ntmps51
 go_wp2_with (first
  | (go_at_call 30; (with_reducible refine (HO1.out _).mono ?_); rintro r w4 ⟨hu4, v4, rfl, hB4⟩; obtain ⟨b4, a4, n4, c4, rfl⟩ := hB4.shape)
  | ((with_reducible apply stB_P); exact rfl; exact rfl; exact Blk.new _ _ rfl; exact rfl; exact rfl; exact one2 _ _ _ _
     refine wpL_folded (fun wd => Up w4 wd /\ Blk wd w4.heap.size 59 #[.bool b4, .slice a4 n4 c4] /\ Big wd (.agg #[.bool b4, .slice a4 n4 c4]) 1) ⟨gUp, gBlk, (hB4.up (Up.alloc _ _)).setRow (Blk.new _ _ rfl)⟩ ?_
     rintro w5 ⟨hu5, hb5, hB5⟩))
 have hu := hu4.trans hu5
 have hz4 := hu4.size
 have HG := hid (fun q (hq : q < n) => show G q < w4.heap.size from Nat.lt_of_lt_of_le (HGl.out q hq) hz4)
 have HbP := hid (show base <= w4.heap.size from Nat.le_trans hb hz4)
 obtain ⟨bP, hbP⟩ : ∃ y, w4.heap.size = y := ⟨_, rfl⟩
 rw [hbP] at hb5 HG HbP ⊢
 have hMI : MI w base bP (bP + 1) n (.slice pA n cA) G b4 a4 n4 c4 1 (.slice none 0 0) [] V w5 := ⟨HM.out.up hu, hb5, hB5, OwnB.nil _ _, Below.mono hu hb⟩
 have HB0 := hid hb
 clear hu4 hu5 hb5 hB5 hB4 hz4 hbP hu HGl HM hb HO1
 go_loopg [4, 5] n (fun g t4 t5 wr => ∃ (k : Nat) (V' : Nat -> Nat -> Int) (b0 : Bool) (p0 : Option Addr) (n0 c0 : Nat) (L : List Int), k <= n /\ n - k <= g /\ t5 = .int .i64 (k : Nat) /\ (∀ j, j < k -> 0 < (gs V j).2 0 0) /\ Left n k (gs V k).2 V' /\ L ++ mins (n - k) (gs V k).1 (gs V k).2 = T /\ L.length = k /\ MI w base bP (bP + 1) n (.slice pA n cA) G b0 p0 n0 c0 (gs V k).1 t4 L V' wr)
 case atStart => exact ⟨0, V, b4, a4, n4, c4, [], Nat.zero_le _, by omega, rfl, fun j hj => absurd hj (Nat.not_lt_zero _), Left.start fun _ _ _ _ => rfl, HT.out, rfl, hMI⟩
 case round =>
  clear hMI HT
  obtain ⟨k, V', b0, p0, n0, c0, L, hk, hkg, rfl, hpos, hleft, hdone, hLl, hMI⟩ := hrel
  obtain ⟨pL, cL, rfl⟩ := hMI.l.slice
  have HMI := hid hMI
  have HPos := hid hpos
  have HLeft := hid hleft
  have HDone := hid hdone
  have HSz := hid (show bP + 1 <= wr.heap.size from hMI.p.lt)
  have HLl := hid hLl
  clear hpos hleft hdone hMI hLl
  by_cases hlt : k < n
  ·obtain ⟨s, hs⟩ : ∃ s, n - k = s + 1 := ⟨n - k - 1, by omega⟩
   obtain ⟨gA, cA', CA, hvA, -, hcA, hBA, hEA⟩ := HMI.out.m.open (by omega)
   injection hvA with x1 _ x3
   subst x1 x3
   have HEA := hid hEA
   obtain ⟨ck, hCk⟩ := hEA k hlt
   have HCk := hid hCk
   have hcx := hBA.cell k hCk
   obtain ⟨Ck, bk, ak, nk, dk, hBk, -, h1, h2, hbig⟩ := HMI.out.m.entry hlt hlt
   have HRk := hid (fun w' (hB : Blk w' (G k) 59 Ck) => bigAt_range hB h1 h2)
   obtain ⟨r0, r1, r2⟩ := HR.out k hlt HPos.out
   obtain ⟨q, hq⟩ : ∃ q, (gs V k).1 = q := ⟨_, rfl⟩
   obtain ⟨M, hM⟩ : ∃ M, (gs V k).2 = M := ⟨_, rfl⟩
   have HN1 := hid (show (gs V (k + 1)).1 = M 0 0 from by rw [<- hM]; rfl)
   have HN2 := hid (show (gs V (k + 1)).2 = nxt q M from by rw [<- hM, <- hq]; rfl)
   have HP2 := hid (fun (hp : 0 < M 0 0) j (hj : j < k + 1) => show 0 < (gs V j).2 0 0 from by
    by_cases e : j = k
    ·rw [e, hM]; exact hp
    ·exact HPos.out j (by omega))
   have HD2 := hid (show L ++ (M 0 0 :: (if 0 < M 0 0 then mins s (M 0 0) (nxt q M) else [])) = T from by have h := HDone.out; rw [hq, hM, hs, mins_succ] at h; exact h)
   have HLf : Hid (Left n k M V') := hid (by have h := HLeft.out; rw [hM] at h; exact h)
   have HMQ : Hid (MI w base bP (bP + 1) n (.slice (some ⟨gA, 0, none⟩) n cA) G b0 p0 n0 c0 q (.slice pL L.length cL) L V' wr) := hid (by have h := HMI.out; rw [hq] at h; exact h)
   have h00 : V' k k = M 0 0 := by have h := HLf.out k k (Nat.le_refl _) hlt (Nat.le_refl _) hlt; rwa [Nat.sub_self] at h
   rw [hq] at r0 r1
   rw [hM] at r2
   rw [h00] at hbig
   have HQ := hid (show q ≠ 0 /\ q.natAbs < bp B /\ ∀ i j, (M i j).natAbs < bp B from ⟨Int.ne_of_gt r0, r1, r2⟩)
   have HSg := hid (fun w v (h : Big w v (M 0 0)) => rsign_big h)
   have e1 : IntKind.i64.wrap ((k : Int) + 1) = (k : Int) + 1 := IntWalk.i64_in _ (by omega)
   have HL9 : Hid (L.length < 1000000) := hid (by have := HLl.out; omega)
   have HBB := hid hBA
   obtain ⟨m0, hm0⟩ : ∃ y, M 0 0 = y := ⟨_, rfl⟩
   have HM0 := hid hm0
   rw [hm0] at hbig HSg HN1 HP2 HD2
   clear hq hM hm0 hEA hCk h1 h2 r0 r1 r2 h00 HDone HLeft HMI HPos hcA
   go_upto_region 7 with (first
    | ((with_reducible apply ldB2_P); exact rfl; exact rfl; exact HRk.out _ hBk)
    | ((with_reducible apply bsB_P); exact rfl)
    | ((with_reducible apply appB (l := L) (z := m0)); exact rfl; exact rfl; exact OwnB.up (Up.alloc _ _) HMQ.out.l; exact bigAt_range0 (Blk.new _ _ rfl); exact hbig.up (Up.alloc _ _); (focus (have := HSz.out; simp; omega)); exact HL9.out; rintro v6 w6 hO6 hg6 hb6))
   have h6 := (HMQ.out.up (Up.alloc _ _) HB0.out).app HG.out (Nat.lt_succ_self _) (Nat.le_trans HbP.out (Nat.le_succ _)) hO6 hg6 hb6
   have HLL : Hid (∀ y, L ++ [m0] = y -> y.length = k + 1 /\ (∀ Z, L ++ (m0 :: Z) = y ++ Z)) := hid (fun y hy => by
    rw [<- hy]
    exact ⟨by have := HLl.out; simp; omega, fun Z => by rw [List.append_assoc]; rfl⟩)
   obtain ⟨LL, hLL⟩ : ∃ y, L ++ [m0] = y := ⟨_, rfl⟩
   obtain ⟨hl1, hl2⟩ := HLL.out LL hLL
   have HL3 := hid hl1
   replace HD2 := HD2.out
   rw [hl2] at HD2
   replace HD2 := hid HD2
   rw [hLL] at h6 hO6
   clear hLL hl1 hl2 HLL
   obtain ⟨p6, c6, rfl⟩ := hO6.slice
   obtain ⟨gB, cB, CB, hvB, -, -, hBB, hEB⟩ := h6.m.open (by omega)
   injection hvB with x1 _ x3
   injection x1 with x1
   injection x1 with x1
   subst x1 x3
   have HEB := hid hEB
   obtain ⟨ck6, hCk6⟩ := hEB k hlt
   have hcx := hBB.cell k hCk6
   obtain ⟨Ck6, bk6, ak6, nk6, dk6, hBk6, -, h1, h2, hbig6⟩ := h6.m.entry hlt hlt
   have HRk6 := hid (fun w' (hB : Blk w' (G k) 59 Ck6) => bigAt_range hB h1 h2)
   have h00 : V' k k = m0 := by have h := HLf.out k k (Nat.le_refl _) hlt (Nat.le_refl _) hlt; rwa [Nat.sub_self, HM0.out] at h
   rw [h00] at hbig6
   have H6 := hid h6
   clear hEB hCk6 h1 h2 h00 h6 hO6 hg6 hb6 HSz HRk HMQ HBB hBA hBk hbig HCk HEA
   by_cases hp : 0 < m0
   ·have ds : decide (sgn m0 <= 0) = false := by unfold sgn; rw [decide_eq_false]; split <;> (try split) <;> omega
    have HD3 := hid (show LL ++ mins s m0 (nxt q M) = T from by have h := HD2.out; rw [if_pos hp] at h; exact h)
    have HP3 := hid (HP2.out hp)
    clear HD2 HP2 HLl HL9
    go_wp2_with (first
     | ((with_reducible apply ldB2_P); exact rfl; exact rfl; exact HRk6.out _ hBk6)
     | (go_at_call 52; (with_reducible refine (HSg.out _ _ hbig6).mono ?_); rintro r w7 ⟨rfl, hu7⟩))
    have h7 := H6.out.up hu7 HB0.out
    clear hu7 H6 hBk6 hcx HRk6 hBB HEB hbig6 ds HSg
    go_loopg [6] n (fun g ti wr => ∃ (i : Nat) (V1 : Nat -> Nat -> Int), k + 1 <= i /\ i <= n /\ n - i <= g /\ ti = .int .i64 (i : Nat) /\ At1 n k q M i (k + 1) V1 /\ MI w base bP (bP + 1) n (.slice (some ⟨gA, 0, none⟩) n cA) G b0 p0 n0 c0 q (.slice p6 LL.length c6) LL V1 wr)
    case atStart => exact ⟨k + 1, V', Nat.le_refl _, hlt, by omega, rfl, At1.start HLf.out, h7⟩
    case round =>
     clear h7
     obtain ⟨i, V1, hki, hi, hig, rfl, hAt, hMI⟩ := hrel
     have HAt := hid hAt
     have HMI := hid hMI
     clear hAt hMI
     by_cases hil : i < n
     ·have e2 : IntKind.i64.wrap ((i : Int) + 1) = (i : Int) + 1 := IntWalk.i64_in _ (by omega)
      go_wp2_with fail
      obtain ⟨wO, hwO⟩ : ∃ y, wr = y := ⟨_, rfl⟩
      rw [hwO] at HMI ⊢
      clear hwO
      go_loopg [7] n (fun g tj wr => ∃ (j : Nat) (V1 : Nat -> Nat -> Int), k + 1 <= j /\ j <= n /\ n - j <= g /\ tj = .int .i64 (j : Nat) /\ At1 n k q M i j V1 /\ MI w base bP (bP + 1) n (.slice (some ⟨gA, 0, none⟩) n cA) G b0 p0 n0 c0 q (.slice p6 LL.length c6) LL V1 wr)
      case atStart => exact ⟨k + 1, V1, Nat.le_refl _, hlt, by omega, rfl, HAt.out, HMI.out⟩
      case round =>
       clear HAt HMI
       obtain ⟨j, V2, hkj, hj, hjg, rfl, hAt, hMI⟩ := hrel
       by_cases hjl : j < n
       ·have e3 : IntKind.i64.wrap ((j : Int) + 1) = (j : Int) + 1 := IntWalk.i64_in _ (by omega)
        obtain ⟨gB, cB, CB, hvB, -, -, hBB, hEB⟩ := hMI.m.open (by omega)
        injection hvB with x1 _ x3
        injection x1 with x1
        injection x1 with x1
        subst x1 x3
        obtain ⟨ci, hCi⟩ := hEB i hil
        have HCi := hid (fun w' (hu : Up wr w') => (hBB.up hu).cell i hCi)
        obtain ⟨Ci, bi, ai, ni, di, hBi, hsz, -, -, -⟩ := hMI.m.entry hil hjl
        have hst := hAt.step hki hil hkj hjl
        have f1 := HQ.out.2.2 (k - k) (k - k)
        have f2 := HQ.out.2.2 (i - k) (j - k)
        have f3 := HQ.out.2.2 (i - k) (k - k)
        have f4 := HQ.out.2.2 (k - k) (j - k)
        rw [<- hAt.old (r := k) (c := k) (by omega) (by omega) (by omega) (by omega) (by omega)] at f1
        rw [<- hAt.old (r := i) (c := j) (by omega) (by omega) (by omega) (by omega) (by omega)] at f2
        rw [<- hAt.old (r := i) (c := k) (by omega) (by omega) (by omega) (by omega) (by omega)] at f3
        rw [<- hAt.old (r := k) (c := j) (by omega) (by omega) (by omega) (by omega) (by omega)] at f4
        have HST := hid (fun w' (hu : Up wr w') => hst ▸ rstep_any (hMI.m.up hu) (hMI.q.up hu) hlt hil hlt hjl hn (by omega) hB HQ.out.1 HQ.out.2.1 f1 f2 f3 f4)
        have HSet := hid (hAt.set hki hkj)
        obtain ⟨z, hz⟩ : ∃ z, nxt q M (i - (k + 1)) (j - (k + 1)) = z := ⟨_, rfl⟩
        rw [hz] at HST HSet
        have HMI := hid hMI
        clear hz hst f1 f2 f3 f4 hAt hMI hEB hCi hBB
        go_wp2_with fail
        refine wp_region_sp (n := 70) 12 [50, 51, 52, 53, 54, 55, 56, 57, 58, 59, 60, 61] [SP.is (.slice (some ⟨gA, 0, none⟩) n cA), SP.is (.int .i64 (i : Nat)), SP.is (.pointer (some ⟨gA, i, none⟩)), SP.is (.slice (some ⟨G i, 0, none⟩) n ci), SP.is (.int .i64 (j : Nat)), SP.is (.slice (some ⟨gA, 0, none⟩) n cA), SP.is (.int .i64 (k : Nat)), SP.is (.int .i64 (i : Nat)), SP.is (.int .i64 (j : Nat)), SP.is (.agg #[.bool b0, .slice p0 n0 c0]), SP.of (fun v w1 => Big w1 v z) (fun _ _ _ h hu => h.up hu), SP.is (.pointer (some ⟨G i, j * 2, none⟩)), SP.any] (fun wq => Up wr wq) (by kernel_rfl) (by rfl) (by kernel_rfl) (by kernel_rfl) (fun _ _ h hu => (h).trans hu) (by first | exact Up.refl _ | assumption) (fun ev w9 hS9 i o hne hi hev => ?_) (fun gR wE hq hSE huE => ?_)
        ·have hS1 := hS9
         have hcC := hev.const
         have hcF := hev.func
         have hcG := hev.global
         rcases i with _ | _ | _ | _ | _ | _ | _ | _ | _ | _ | _ | _ | _ | i
         ·obtain rfl := oI hi
          have e0 := hev.other 0 (by kernel_rfl)
          simp [Act.eval] at e0
          exact lV (.slice (some ⟨gA, 0, none⟩) n cA)
         ·obtain rfl := oI hi
          have e6 := hev.other 6 (by kernel_rfl)
          simp [Act.eval] at e6
          exact lV (.int .i64 (i : Nat))
         ·obtain rfl := oI hi
          have e50 : ev (.tmp 50) = (.slice (some ⟨gA, 0, none⟩) n cA) := hev.dep 0 50 (by kernel_rfl)
          have e51 : ev (.tmp 51) = (.int .i64 (i : Nat)) := hev.dep 1 51 (by kernel_rfl)
          exact lV (.pointer (some ⟨gA, i, none⟩))
         ·obtain rfl := oI hi
          have e52 : ev (.tmp 52) = (.pointer (some ⟨gA, i, none⟩)) := hev.dep 2 52 (by kernel_rfl)
          have hcx := HCi.out w9 hS1; exact leavesR_value (u := .slice (some ⟨G i, 0, none⟩) n ci) (by go_simp) rfl
         ·obtain rfl := oI hi
          have e7 := hev.other 7 (by kernel_rfl)
          simp [Act.eval] at e7
          exact lV (.int .i64 (j : Nat))
         ·obtain rfl := oI hi
          have e0 := hev.other 0 (by kernel_rfl)
          simp [Act.eval] at e0
          exact lV (.slice (some ⟨gA, 0, none⟩) n cA)
         ·obtain rfl := oI hi
          have e5 := hev.other 5 (by kernel_rfl)
          simp [Act.eval] at e5
          exact lV (.int .i64 (k : Nat))
         ·obtain rfl := oI hi
          have e6 := hev.other 6 (by kernel_rfl)
          simp [Act.eval] at e6
          exact lV (.int .i64 (i : Nat))
         ·obtain rfl := oI hi
          have e7 := hev.other 7 (by kernel_rfl)
          simp [Act.eval] at e7
          exact lV (.int .i64 (j : Nat))
         ·obtain rfl := oI hi
          have e3 := hev.other 3 (by kernel_rfl)
          simp [Act.eval] at e3
          exact leavesR_value (run_ldBR rfl (by go_simp) (HMI.out.p.up hS1) rfl) rfl
         ·obtain rfl := oI hi
          have e55 : ev (.tmp 55) = (.slice (some ⟨gA, 0, none⟩) n cA) := hev.dep 5 55 (by kernel_rfl)
          have e56 : ev (.tmp 56) = (.int .i64 (k : Nat)) := hev.dep 6 56 (by kernel_rfl)
          have e57 : ev (.tmp 57) = (.int .i64 (i : Nat)) := hev.dep 7 57 (by kernel_rfl)
          have e58 : ev (.tmp 58) = (.int .i64 (j : Nat)) := hev.dep 8 58 (by kernel_rfl)
          have e59 : ev (.tmp 59) = (.agg #[.bool b0, .slice p0 n0 c0]) := hev.dep 9 59 (by kernel_rfl)
          refine leavesR_call ?_ (HST.out _ hS1)
          go_simp
         ·obtain rfl := oI hi
          have e53 : ev (.tmp 53) = (.slice (some ⟨G i, 0, none⟩) n ci) := hev.dep 3 53 (by kernel_rfl)
          have e54 : ev (.tmp 54) = (.int .i64 (j : Nat)) := hev.dep 4 54 (by kernel_rfl)
          exact lV (.pointer (some ⟨G i, j * 2, none⟩))
         ·exact absurd rfl hne
         ·exact absurd (show i + 13 < 13 from (Array.getElem?_eq_some_iff.1 hi).1) (by omega)
        have hS1 := hSE
        have q0 : gR 50 = (.slice (some ⟨gA, 0, none⟩) n cA) := hq 0 50 (by decide) (by kernel_rfl)
        have q1 : gR 51 = (.int .i64 (i : Nat)) := hq 1 51 (by decide) (by kernel_rfl)
        have q2 : gR 52 = (.pointer (some ⟨gA, i, none⟩)) := hq 2 52 (by decide) (by kernel_rfl)
        have q3 : gR 53 = (.slice (some ⟨G i, 0, none⟩) n ci) := hq 3 53 (by decide) (by kernel_rfl)
        have q4 : gR 54 = (.int .i64 (j : Nat)) := hq 4 54 (by decide) (by kernel_rfl)
        have q5 : gR 55 = (.slice (some ⟨gA, 0, none⟩) n cA) := hq 5 55 (by decide) (by kernel_rfl)
        have q6 : gR 56 = (.int .i64 (k : Nat)) := hq 6 56 (by decide) (by kernel_rfl)
        have q7 : gR 57 = (.int .i64 (i : Nat)) := hq 7 57 (by decide) (by kernel_rfl)
        have q8 : gR 58 = (.int .i64 (j : Nat)) := hq 8 58 (by decide) (by kernel_rfl)
        have q9 : gR 59 = (.agg #[.bool b0, .slice p0 n0 c0]) := hq 9 59 (by decide) (by kernel_rfl)
        have q10 : (fun v w1 => Big w1 v z) (gR 60) wE := hq 10 60 (by decide) (by kernel_rfl)
        dsimp only at q10
        obtain ⟨v60, hv60⟩ : ∃ v, gR 60 = v := ⟨_, rfl⟩
        rw [hv60] at q10
        have q11 : gR 61 = (.pointer (some ⟨G i, j * 2, none⟩)) := hq 11 61 (by decide) (by kernel_rfl)
        refine ⟨fun h => absurd h (by decide), fun o ho => ?_⟩
        obtain rfl := oI ho
        simp only [putL, List.map_cons, List.map_nil, q0, q1, q2, q3, q4, q5, q6, q7, q8, q9, hv60, q11, Act.put, pu1, pu2, pu3]
        clear hq hSE q0 q1 q2 q3 q4 q5 q6 q7 q8 q9 q11
        obtain ⟨yb, ya, yn, yc, rfl⟩ := q10.shape
        have hset := MI.set (HMI.out.up hS1 HB0.out) hil hjl HG.out (Nat.lt_succ_self _) (hBi.up hS1) q10
        refine wp_stB2 _ _ rfl rfl rfl (hBi.up hS1) (by omega) ?_
        obtain ⟨wK, hwK⟩ : ∃ y, wE.setRow (G i) (splB Ci (j * 2) [.bool yb, .slice ya yn yc]) = y := ⟨_, rfl⟩
        rw [hwK] at hset ⊢
        clear hwK hS1 huE q10 HST hBi HCi HMI
        go_wp2_with fail
        go_roundg (n - (j + 1))
        case measure => omega
        case rel => exact ⟨j + 1, _, by omega, hjl, Nat.le_refl _, rfl, HSet.out, hset⟩
       ·obtain rfl : j = n := by omega
        have HR2 := hid hAt.row
        have HMI := hid hMI
        clear hAt hMI
        go_wp2_with fail
        go_roundg (j - (i + 1))
        case measure => omega
        case rel => exact ⟨i + 1, V2, by omega, hil, Nat.le_refl _, rfl, HR2.out, HMI.out⟩
     ·obtain rfl : i = n := by omega
      have HLn := hid (show Left i (k + 1) (nxt q M) V1 from HAt.out.all)
      have h00 : V1 k k = m0 := by rw [HAt.out.old (r := k) (c := k) (by omega) (by omega) (by omega) (by omega) (by omega), Nat.sub_self, HM0.out]
      obtain ⟨gB, cB, CB, hvB, -, -, hBB, hEB⟩ := HMI.out.m.open (by omega)
      injection hvB with x1 _ x3
      injection x1 with x1
      injection x1 with x1
      subst x1 x3
      obtain ⟨ck8, hCk8⟩ := hEB k hlt
      have hcx := hBB.cell k hCk8
      obtain ⟨Ck8, bk8, ak8, nk8, dk8, hBk8, -, h1, h2, hbig8⟩ := HMI.out.m.entry hlt hlt
      have HRk8 := hid (fun w' (hB : Blk w' (G k) 59 Ck8) => bigAt_range hB h1 h2)
      rw [h00] at hbig8
      clear h00 h1 h2 hEB hCk8 hBB HAt
      go_wp2_with (first
       | ((with_reducible apply ldB2_P); exact rfl; exact rfl; exact HRk8.out _ hBk8)
       | ((with_reducible apply stB_P); exact rfl; exact rfl; exact HMI.out.p; exact rfl; exact rfl; exact one2 _ _ _ _
          refine wpL_folded (fun wd => MI w base bP (bP + 1) i (.slice (some ⟨gA, 0, none⟩) i cA) G bk8 ak8 nk8 dk8 m0 (.slice p6 LL.length c6) LL V1 wd) (HMI.out.prev HG.out (Nat.lt_succ_self _) HbP.out hbig8) ?_
          rintro w9 h9))
      go_roundg (i - (k + 1))
      case measure => omega
      case rel => exact ⟨k + 1, V1, bk8, ak8, nk8, dk8, LL, hlt, Nat.le_refl _, rfl, HP3.out, by rw [HN2.out]; exact HLn.out, by rw [HN1.out, HN2.out, show i - (k + 1) = s by omega]; exact HD3.out, HL3.out, by rw [HN1.out]; exact h9⟩
   ·have ds : decide (sgn m0 <= 0) = true := by unfold sgn; rw [decide_eq_true]; split <;> (try split) <;> omega
    have hT : LL = T := by have h := HD2.out; rw [if_neg hp, List.append_nil] at h; exact h
    subst hT
    clear HD2
    go_wp2_with (first
     | ((with_reducible apply ldB2_P); exact rfl; exact rfl; exact HRk6.out _ hBk6)
     | (go_at_call 52; (with_reducible refine (HSg.out _ _ hbig6).mono ?_); rintro r w7 ⟨rfl, hu7⟩))
    go_ret
    exact ⟨_, rfl, hu7.below H6.out.u (Nat.le_trans HB0.out H6.out.u.size), (H6.out.l.up hu7).bv⟩
  ·obtain rfl : k = n := by omega
   have hT : L = T := by have h := HDone.out; rw [Nat.sub_self] at h; rw [<- h]; show L = L ++ []; rw [List.append_nil]
   subst hT
   clear HDone HR HLeft HPos
   go_wp2_with fail
   go_ret
   exact ⟨_, rfl, HMI.out.u, HMI.out.l.bv⟩
theorem all_last {s : Nat} {V : Nat -> Nat -> Int} (hl : (mins (s + 1) 1 V).length = s + 1) : ((mins (s + 1) 1 V).all fun x => decide (0 < x)) = decide (0 < zth (mins (s + 1) 1 V) s) := by
 have h := mins_all (s + 1) 1 V
 rw [Bool.eq_iff_iff, List.all_eq_true, decide_eq_true_iff]
 simp only [decide_eq_true_iff]
 rw [h]
 unfold zth
 constructor
 ·rintro (h | ⟨_, h⟩)
  ·omega
  ·exact h
 ·exact fun h => .inr ⟨hl, h⟩
theorem all_short {s : Nat} {V : Nat -> Nat -> Int} (hl : (mins (s + 1) 1 V).length ≠ s + 1) : ((mins (s + 1) 1 V).all fun x => decide (0 < x)) = false := by
 rw [Bool.eq_false_iff, Ne, List.all_eq_true]
 simp only [decide_eq_true_iff]
 rw [mins_all (s + 1) 1 V]
 rintro (h | ⟨h, _⟩)
 ·omega
 ·exact hl h
theorem sgn_gt (z : Int) : decide (0 < sgn z) = decide (0 < z) := by
 unfold sgn
 rw [Bool.eq_iff_iff, decide_eq_true_iff, decide_eq_true_iff]
 split <;> (try split) <;> omega
theorem RE_AM {n : Nat} (l : List Int) : ∀ i j, i < n -> j < n -> RE n l 1 0 i j = AM n l i j := fun i j hi hj => by
 unfold RE
 rw [AM_at hi hj, Int.one_mul, ite_self, Int.add_zero]
set_option maxHeartbeats 4000000 in
theorem rdefinite_any {w : World} {base n B : Nat} {av : Value} {G : Nat -> Nat} {V : Nat -> Nat -> Int} (h : OwnM w base av n n G V) (hn : n <= 8) (hB : B <= 100) (hR : Run B n V) (hb : base <= w.heap.size) :
   Calls Tryz.prog 31 #[av] w fun r w' => r = .returned (.bool ((mins n 1 V).all fun x => decide (0 < x))) /\ Below base w w' := by
 have HMn := hid (rminors_any h hn hB hR hb)
 obtain ⟨pA, cA, rfl⟩ := h.slice
 have HB0 := hid hb
 clear h hR hb hB
 rcases n with _ | s
 ·rw [show ((mins 0 1 V).all fun x => decide (0 < x)) = true from rfl]
  obtain ⟨T, hT⟩ : ∃ T, mins 0 1 V = T := ⟨_, rfl⟩
  rw [hT] at HMn
  clear hT
  go_enter Tryz.func31, Tryz.ntmps31
  go_wp2_with (first
   | (go_at_call 51; (with_reducible refine HMn.out.mono ?_); rintro r w2 ⟨z2, rfl, hB2, hz2⟩; obtain ⟨p2, c2, rfl⟩ := hz2.slice))
  go_ret
  exact ⟨rfl, hB2⟩
 ·have dn : ((s : Int) + 1 == 0) = false := by simp; omega
  by_cases hl : (mins (s + 1) 1 V).length = s + 1
  ·rw [all_last hl]
   have HL := hid hl
   obtain ⟨T, hT⟩ : ∃ T, mins (s + 1) 1 V = T := ⟨_, rfl⟩
   rw [hT] at HMn HL ⊢
   obtain ⟨z, hz⟩ : ∃ z, zth T s = z := ⟨_, rfl⟩
   have HZ := hid hz
   rw [hz, <- sgn_gt]
   have HSg := hid (fun w v (h : Big w v z) => rsign_big h)
   have ei : IntKind.i64.wrap (((s + 1 : Nat) : Int) - 1) = (s : Int) := by rw [show (((s + 1 : Nat) : Int) - 1) = s by omega]; exact IntWalk.i64_in _ (by omega)
   clear hT hl hz
   go_enter Tryz.func31, Tryz.ntmps31
   go_upto_region 2 with (first
    | (go_at_call 51; (with_reducible refine HMn.out.mono ?_); rintro r w2 ⟨z2, rfl, hB2, hz2⟩))
   obtain ⟨g, cap, C, rfl, hcp, hBC, hE⟩ := hz2.open (by rw [HL.out]; omega)
   obtain ⟨b, a, m, c, h1, h2, h3⟩ := hE s (by rw [HL.out]; omega)
   rw [HZ.out] at h3
   have HRk := hid (fun w' (hB : Blk w' g 59 C) => bigAt_range hB h1 h2)
   clear hE h1 h2
   rw [HL.out]
   rw [HL.out] at hcp
   go_wp2_with (first
    | ((with_reducible apply ldB2_P); exact rfl; exact rfl; exact HRk.out _ hBC)
    | (go_at_call 52; (with_reducible refine (HSg.out _ _ h3).mono ?_); rintro r w7 ⟨rfl, hu7⟩))
   go_ret
   exact ⟨rfl, hu7.below hB2 (Nat.le_trans HB0.out hB2.size)⟩
  ·rw [all_short hl]
   have dl : (((mins (s + 1) 1 V).length : Int) == (s : Int) + 1) = false := by simp; omega
   obtain ⟨T, hT⟩ : ∃ T, mins (s + 1) 1 V = T := ⟨_, rfl⟩
   rw [hT] at HMn dl
   clear hT hl
   go_enter Tryz.func31, Tryz.ntmps31
   go_wp2_with (first
    | (go_at_call 51; (with_reducible refine HMn.out.mono ?_); rintro r w2 ⟨z2, rfl, hB2, hz2⟩; obtain ⟨p2, c2, rfl⟩ := hz2.slice))
   go_ret
   exact ⟨rfl, hB2⟩
theorem run_bd {n : Nat} {V : Nat -> Nat -> Int} (hn : n <= 8) (hV : ∀ i j, (V i j).natAbs <= bdM) : Run 9 n V := by
 have h : ∀ k, k < n -> (∀ j, j < k -> 0 < (gs V j).2 0 0) -> 0 < (gs V k).1 /\ (gs V k).1.natAbs < bp 9 /\ Good (gs V k).1 (fun r => bdB (r + k + 1)) (gs V k).2 := by
  intro k
  induction k with
  | zero =>
    intro _ _
    refine ⟨by show (0 : Int) < 1; decide, ?_, Good.start hV⟩
    have h1 := bp_mono (show 1 <= 9 by omega)
    rw [bp_succ 0, bp_zero] at h1
    show (1 : Nat) < bp 9
    omega
  | succ k ih =>
    intro hk hp
    obtain ⟨h1, h2, h3⟩ := ih (by omega) fun j hj => hp j (by omega)
    have h4 := hp k (by omega)
    refine ⟨h4, Nat.lt_of_le_of_lt (h3.entry 0 0) (bdB_bp (by omega)), ?_⟩
    have h5 := h3.next (Int.ne_of_gt h1) (Int.ne_of_gt h4)
    exact h5.mono fun r => by rw [show r + 1 + k + 1 = r + (k + 1) + 1 from by omega]; exact Nat.le_refl _
 exact fun k hk hp => ⟨(h k hk hp).1, (h k hk hp).2.1, fun i j => Nat.lt_of_le_of_lt ((h k hk hp).2.2.entry i j) (bdB_bp (by omega))⟩
def dgW (V : Nat -> Nat -> Int) (k : Int) (i : Nat) : Nat -> Nat -> Int := fun r c => if r = c /\ r < i then V r c - k else V r c
theorem dgW_set (V : Nat -> Nat -> Int) (k : Int) (i : Nat) : upd2 (dgW V k i) i i (dgW V k i i i - k) = dgW V k (i + 1) := by
 funext r c
 unfold upd2 dgW
 rw [if_neg (show ¬ (i = i /\ i < i) from by omega)]
 by_cases h : r = i /\ c = i
 ·obtain ⟨rfl, rfl⟩ := h
  rw [if_pos ⟨rfl, rfl⟩, if_pos ⟨rfl, by omega⟩]
 ·rw [if_neg h]
  by_cases h2 : r = c /\ r < i
  ·rw [if_pos h2, if_pos ⟨h2.1, by omega⟩]
  ·rw [if_neg h2, if_neg (by omega)]
theorem dgW_zero (V : Nat -> Nat -> Int) (k : Int) : dgW V k 0 = V := by
 funext r c
 unfold dgW
 rw [if_neg (by omega)]
theorem dgW_ls {n : Nat} (l : List Int) (k : Int) {i j : Nat} (hi : i < n) (hj : j < n) : dgW (RE n l 1 0) k n i j = lsM n l k i j := by
 have h := RE_AM l i j hi hj
 unfold dgW lsM unitM
 by_cases e : i = j
 ·rw [if_pos ⟨e, hi⟩, if_pos e, h]
 ·rw [if_neg (fun x => e x.1), if_neg e, h]; omega
theorem RE_ms {n : Nat} (l : List Int) (k : Int) {i j : Nat} (hi : i < n) (hj : j < n) : RE n l (-1) k i j = msM n l k i j := by
 unfold RE msM unitM
 rw [AM_at hi hj]
 split <;> omega
theorem dgW_one {V : Nat -> Nat -> Int} {k : Int} {i : Nat} : dgW V k i i i = V i i := by unfold dgW; rw [if_neg (by omega)]
theorem RE_fit {n : Nat} {l : List Int} (hR : rt n l = true) {i j : Nat} (hi : i < n) (hj : j < n) : (RE n l 1 0 i j).natAbs <= 1073741824 := by rw [RE_AM l i j hi hj]; exact AM_abs hR i j
set_option maxHeartbeats 16000000 in
theorem rleast_any {v : Value} {N : Int} {l : List Int} {k : Int} {w : World} (hm : Sm w v N l) (hk : I64 k) :
   Calls Tryz.prog 9 #[v, .int .i64 k] w fun r w' => r = .returned (.bool (lsV N l k)) /\ Up w w' := by
 have HRT := hid (fun w' (hu : Up w w') => rright_any (hm.up hu))
 have HSm := hid hm
 obtain ⟨s0, rfl, ⟨p, cap, rfl, -, -⟩, -, -, -⟩ := hm
 have hB := Blk.new (w := w) (b := w.heap.size) 24 #[.int .i64 N, .slice p l.length cap] rfl
 have hU := Up.alloc w (.cells #[.int .i64 N, .slice p l.length cap] 24)
 obtain ⟨W0, hW0⟩ : ∃ W0, w.alloc (.cells #[.int .i64 N, .slice p l.length cap] 24) = W0 := ⟨_, rfl⟩
 rw [hW0] at hB hU
 cases hR : rt N l with
 | false =>
   rw [hR] at HRT
   rw [show lsV N l k = false from by unfold lsV; rw [hR, Bool.false_and]]
   clear hR
   go_enter Tryz.func9, Tryz.ntmps9
   go_wp2_with (first
    | ((with_reducible apply ldM_P); exact rfl; exact rfl; exact hB; exact rfl)
    | (go_at_call 27; (with_reducible refine (HRT.out _ hU).mono ?_); rintro r w1 ⟨rfl, hu1⟩))
   go_ret
   exact ⟨rfl, hU.trans hu1⟩
 | true =>
   rw [hR] at HRT
   obtain ⟨n, rfl, n8⟩ := rt_ofN hR
   have HRW := hid (fun w' (hu : Up w w') => rows_any (HSm.out.up hu) hR (s := 1) (k := 0) (by unfold I64; omega) (by unfold I64; omega))
   obtain ⟨D, hD⟩ : ∃ D, lsV n l k = D := ⟨_, rfl⟩
   have hD2 : dfB n (lsM n l k) = D := by rw [<- hD]; unfold lsV; rw [hR, Bool.true_and]; rfl
   have HDF := hid (fun w' b z G (hb : b <= w'.heap.size) (hO : OwnM w' b z n n G (dgW (RE n l 1 0) k n)) => show Calls Tryz.prog 31 #[z] w' fun r w'' => r = .returned (.bool D) /\ Below b w' w'' from hD2 ▸ rdefinite_any (hO.congr fun i j hi hj => dgW_ls l k hi hj) n8 (show 9 <= 100 by decide) (run_bd n8 (lsM_abs hR hk)) hb)
   have HOk := hid (fun w => of_big k hk.1 hk.2 w)
   have HFt := hid (fun i (hi : i < n) => RE_fit hR hi hi)
   have HK1 := hid (nl_bp (k := 1) (by decide) (i64_bp hk))
   rw [hD]
   clear hR hk HSm hD hD2
   obtain ⟨V, hV⟩ : ∃ V, RE n l 1 0 = V := ⟨_, rfl⟩
   rw [hV] at HRW HDF HFt
   clear hV
   go_enter Tryz.func9, Tryz.ntmps9
   go_wp2_with (first
    | ((with_reducible apply ldM_P); exact rfl; exact rfl; (first | exact hB | exact hB1); exact rfl)
    | (go_at_call 27; (with_reducible refine (HRT.out _ hU).mono ?_); rintro r w1 ⟨rfl, hu1⟩; have hB1 := hB.up hu1; have hU1 := hU.trans hu1)
    | (go_at_call 28; (with_reducible refine (HRW.out _ hU1).mono ?_); rintro r w2 ⟨z2, b2, G, rfl, hu2, hb2, hb3, hO2⟩))
   obtain ⟨pA, cA, rfl⟩ := hO2.slice
   have hB2 := hB1.up hu2
   have hU2 := hU1.trans hu2
   have hlt0 := hB1.lt
   obtain ⟨b0, hb0⟩ : ∃ y, w.heap.size = y := ⟨_, rfl⟩
   have hwb : w.heap.size <= b2 := Nat.le_trans hU1.size hb2
   rw [hb0] at hB2 hlt0 ⊢
   have hbb : b0 < b2 := by omega
   rw [<- dgW_zero V k] at hO2
   clear hW0 hB hU hu1 hB1 hu2 hU1 hlt0 hb2 hb0
   go_loopg [6] n (fun g ti wr => ∃ i : Nat, i <= n /\ n - i <= g /\ ti = .int .i64 (i : Nat) /\ OwnM wr b2 (.slice pA n cA) n n G (dgW V k i) /\ Below b2 w2 wr)
   case atStart => exact ⟨0, Nat.zero_le _, by omega, rfl, hO2, Below.refl _ _⟩
   case round =>
    clear hO2
    obtain ⟨i, hi, hig, rfl, hO, hu⟩ := hrel
    have hBr := Blk.below hB2 hu hbb
    have hc0 := hBr.cell 0 rfl
    have hbs : b2 <= wr.heap.size := Nat.le_trans hb3 hu.size
    by_cases hlt : i < n
    ·have e1 : IntKind.i64.wrap ((i : Int) + 1) = (i : Int) + 1 := IntWalk.i64_in _ (by omega)
     obtain ⟨gA, cA', CA, hvA, hgA, hcA, hBA, hEA⟩ := hO.open (by omega)
     injection hvA with x1 _ x3
     subst x1 x3
     obtain ⟨ci, hCi⟩ := hEA i hlt
     have HCi := hid (fun w' (hu : Up wr w') => (hBA.up hu).cell i hCi)
     obtain ⟨Ci, bi, ai, ni, di, hBi, hsz, h1, h2, hbig⟩ := hO.entry hlt hlt
     have HRk := hid (fun w' (hB : Blk w' (G i) 59 Ci) => bigAt_range hB h1 h2)
     have hGi : b2 <= G i := by obtain ⟨_, _, _, h3, _⟩ := hO; exact (h3 i hlt).1
     have HSet := hid (dgW_set V k i)
     have hx := HFt.out i hlt
     rw [<- dgW_one (V := V) (k := k) (i := i)] at hx
     have HSu := hid (fun w' va vb (ha : Big w' va (dgW V k i i i)) (hb : Big w' vb k) => sub_big ha hb (nl_bp (k := 1) (by decide) (Nat.lt_of_le_of_lt hx (by rw [bp_succ, bp_zero]; decide))) HK1.out)
     have HO := hid hO
     generalize dgW V k i i i = x at *
     clear hEA hCi h1 h2 hcA hx hO
     go_wp2_with fail
     refine wp_region_sp (n := 36) 16 [18, 19, 20, 21, 22, 23, 24, 25, 26, 27, 28, 29, 30, 31, 32, 33] [SP.is (.slice (some ⟨gA, 0, none⟩) n cA), SP.is (.int .i64 (i : Nat)), SP.is (.pointer (some ⟨gA, i, none⟩)), SP.is (.slice (some ⟨G i, 0, none⟩) n ci), SP.is (.int .i64 (i : Nat)), SP.is (.slice (some ⟨gA, 0, none⟩) n cA), SP.is (.int .i64 (i : Nat)), SP.is (.pointer (some ⟨gA, i, none⟩)), SP.is (.slice (some ⟨G i, 0, none⟩) n ci), SP.is (.int .i64 (i : Nat)), SP.is (.pointer (some ⟨G i, i * 2, none⟩)), SP.is (.agg #[.bool bi, .slice ai ni di]), SP.is (.int .i64 k), SP.of (fun v w1 => Big w1 v k) (fun _ _ _ h hu => h.up hu), SP.of (fun v w1 => Big w1 v (x - k)) (fun _ _ _ h hu => h.up hu), SP.is (.pointer (some ⟨G i, i * 2, none⟩)), SP.any] (fun wq => Up wr wq) (by kernel_rfl) (by rfl) (by kernel_rfl) (by kernel_rfl) (fun _ _ h hu => (h).trans hu) (by first | exact Up.refl _ | assumption) (fun ev w9 hS9 i o hne hi hev => ?_) (fun gR wE hq hSE huE => ?_)
     ·have hS1 := hS9
      have hcC := hev.const
      have hcF := hev.func
      have hcG := hev.global
      rcases i with _ | _ | _ | _ | _ | _ | _ | _ | _ | _ | _ | _ | _ | _ | _ | _ | _ | i
      ·obtain rfl := oI hi
       have e5 := hev.other 5 (by kernel_rfl)
       simp [Act.eval] at e5
       exact lV (.slice (some ⟨gA, 0, none⟩) n cA)
      ·obtain rfl := oI hi
       have e6 := hev.other 6 (by kernel_rfl)
       simp [Act.eval] at e6
       exact lV (.int .i64 (i : Nat))
      ·obtain rfl := oI hi
       have e18 : ev (.tmp 18) = (.slice (some ⟨gA, 0, none⟩) n cA) := hev.dep 0 18 (by kernel_rfl)
       have e19 : ev (.tmp 19) = (.int .i64 (i : Nat)) := hev.dep 1 19 (by kernel_rfl)
       exact lV (.pointer (some ⟨gA, i, none⟩))
      ·obtain rfl := oI hi
       have e20 : ev (.tmp 20) = (.pointer (some ⟨gA, i, none⟩)) := hev.dep 2 20 (by kernel_rfl)
       have hcx := HCi.out w9 hS1; exact leavesR_value (u := .slice (some ⟨G i, 0, none⟩) n ci) (by go_simp) rfl
      ·obtain rfl := oI hi
       have e6 := hev.other 6 (by kernel_rfl)
       simp [Act.eval] at e6
       exact lV (.int .i64 (i : Nat))
      ·obtain rfl := oI hi
       have e5 := hev.other 5 (by kernel_rfl)
       simp [Act.eval] at e5
       exact lV (.slice (some ⟨gA, 0, none⟩) n cA)
      ·obtain rfl := oI hi
       have e6 := hev.other 6 (by kernel_rfl)
       simp [Act.eval] at e6
       exact lV (.int .i64 (i : Nat))
      ·obtain rfl := oI hi
       have e23 : ev (.tmp 23) = (.slice (some ⟨gA, 0, none⟩) n cA) := hev.dep 5 23 (by kernel_rfl)
       have e24 : ev (.tmp 24) = (.int .i64 (i : Nat)) := hev.dep 6 24 (by kernel_rfl)
       exact lV (.pointer (some ⟨gA, i, none⟩))
      ·obtain rfl := oI hi
       have e25 : ev (.tmp 25) = (.pointer (some ⟨gA, i, none⟩)) := hev.dep 7 25 (by kernel_rfl)
       have hcx := HCi.out w9 hS1; exact leavesR_value (u := .slice (some ⟨G i, 0, none⟩) n ci) (by go_simp) rfl
      ·obtain rfl := oI hi
       have e6 := hev.other 6 (by kernel_rfl)
       simp [Act.eval] at e6
       exact lV (.int .i64 (i : Nat))
      ·obtain rfl := oI hi
       have e26 : ev (.tmp 26) = (.slice (some ⟨G i, 0, none⟩) n ci) := hev.dep 8 26 (by kernel_rfl)
       have e27 : ev (.tmp 27) = (.int .i64 (i : Nat)) := hev.dep 9 27 (by kernel_rfl)
       exact lV (.pointer (some ⟨G i, i * 2, none⟩))
      ·obtain rfl := oI hi
       have e28 : ev (.tmp 28) = (.pointer (some ⟨G i, i * 2, none⟩)) := hev.dep 10 28 (by kernel_rfl)
       exact leavesR_value (run_ldB2 rfl e28 (HRk.out _ (hBi.up hS1))) rfl
      ·obtain rfl := oI hi
       have e1 := hev.other 1 (by kernel_rfl)
       simp [Act.eval] at e1
       exact lV (.int .i64 k)
      ·obtain rfl := oI hi
       have e30 : ev (.tmp 30) = (.int .i64 k) := hev.dep 12 30 (by kernel_rfl)
       refine leavesR_call ?_ (HOk.out _)
       go_simp
      ·obtain rfl := oI hi
       have e29 : ev (.tmp 29) = (.agg #[.bool bi, .slice ai ni di]) := hev.dep 11 29 (by kernel_rfl)
       have e31 : (fun v w1 => Big w1 v k) (ev (.tmp 31)) w9 := hev.dep 13 31 (by kernel_rfl)
       dsimp only at e31
       obtain ⟨v31, hv31⟩ : ∃ v, ev (.tmp 31) = v := ⟨_, rfl⟩
       rw [hv31] at e31
       refine leavesR_call ?_ (HSu.out _ _ _ (e29 ▸ hbig.up hS1) e31)
       go_simp
      ·obtain rfl := oI hi
       have e21 : ev (.tmp 21) = (.slice (some ⟨G i, 0, none⟩) n ci) := hev.dep 3 21 (by kernel_rfl)
       have e22 : ev (.tmp 22) = (.int .i64 (i : Nat)) := hev.dep 4 22 (by kernel_rfl)
       exact lV (.pointer (some ⟨G i, i * 2, none⟩))
      ·exact absurd rfl hne
      ·exact absurd (show i + 17 < 17 from (Array.getElem?_eq_some_iff.1 hi).1) (by omega)
     have hS1 := hSE
     have q0 : gR 18 = (.slice (some ⟨gA, 0, none⟩) n cA) := hq 0 18 (by decide) (by kernel_rfl)
     have q1 : gR 19 = (.int .i64 (i : Nat)) := hq 1 19 (by decide) (by kernel_rfl)
     have q2 : gR 20 = (.pointer (some ⟨gA, i, none⟩)) := hq 2 20 (by decide) (by kernel_rfl)
     have q3 : gR 21 = (.slice (some ⟨G i, 0, none⟩) n ci) := hq 3 21 (by decide) (by kernel_rfl)
     have q4 : gR 22 = (.int .i64 (i : Nat)) := hq 4 22 (by decide) (by kernel_rfl)
     have q5 : gR 23 = (.slice (some ⟨gA, 0, none⟩) n cA) := hq 5 23 (by decide) (by kernel_rfl)
     have q6 : gR 24 = (.int .i64 (i : Nat)) := hq 6 24 (by decide) (by kernel_rfl)
     have q7 : gR 25 = (.pointer (some ⟨gA, i, none⟩)) := hq 7 25 (by decide) (by kernel_rfl)
     have q8 : gR 26 = (.slice (some ⟨G i, 0, none⟩) n ci) := hq 8 26 (by decide) (by kernel_rfl)
     have q9 : gR 27 = (.int .i64 (i : Nat)) := hq 9 27 (by decide) (by kernel_rfl)
     have q10 : gR 28 = (.pointer (some ⟨G i, i * 2, none⟩)) := hq 10 28 (by decide) (by kernel_rfl)
     have q11 : gR 29 = (.agg #[.bool bi, .slice ai ni di]) := hq 11 29 (by decide) (by kernel_rfl)
     have q12 : gR 30 = (.int .i64 k) := hq 12 30 (by decide) (by kernel_rfl)
     have q13 : (fun v w1 => Big w1 v k) (gR 31) wE := hq 13 31 (by decide) (by kernel_rfl)
     dsimp only at q13
     obtain ⟨v31, hv31⟩ : ∃ v, gR 31 = v := ⟨_, rfl⟩
     rw [hv31] at q13
     have q14 : (fun v w1 => Big w1 v (x - k)) (gR 32) wE := hq 14 32 (by decide) (by kernel_rfl)
     dsimp only at q14
     obtain ⟨v32, hv32⟩ : ∃ v, gR 32 = v := ⟨_, rfl⟩
     rw [hv32] at q14
     have q15 : gR 33 = (.pointer (some ⟨G i, i * 2, none⟩)) := hq 15 33 (by decide) (by kernel_rfl)
     refine ⟨fun h => absurd h (by decide), fun o ho => ?_⟩
     obtain rfl := oI ho
     simp only [putL, List.map_cons, List.map_nil, q0, q1, q2, q3, q4, q5, q6, q7, q8, q9, q10, q11, q12, hv31, hv32, q15, Act.put, pu1, pu2, pu3]
     clear hq hSE q0 q1 q2 q3 q4 q5 q6 q7 q8 q9 q10 q11 q12 q15
     obtain ⟨yb, ya, yn, yc, rfl⟩ := q14.shape
     have hset := OwnM.set (HO.out.up hS1) hlt hlt (hBi.up hS1) q14
     rw [HSet.out] at hset
     have hbe := below_setRow (Below.trans hu (Below.mono hS1 hbs)) hGi (splB Ci (i * 2) [.bool yb, .slice ya yn yc])
     refine wp_stB2 _ _ rfl rfl rfl (hBi.up hS1) (by omega) ?_
     obtain ⟨wK, hwK⟩ : ∃ y, wE.setRow (G i) (splB Ci (i * 2) [.bool yb, .slice ya yn yc]) = y := ⟨_, rfl⟩
     rw [hwK] at hset hbe ⊢
     clear hwK hS1 huE q13 q14 HSu hBi HCi HO hc0 hBr
     go_wp2_with fail
     go_roundg (n - (i + 1))
     case measure => omega
     case rel => exact ⟨i + 1, hlt, Nat.le_refl _, rfl, hset.1, hbe⟩
    ·obtain rfl : i = n := by omega
     go_wp2_with (first
      | (go_at_call 31; (with_reducible refine (HDF.out _ _ _ _ hbs hO).mono ?_); rintro r w3 ⟨rfl, hB3⟩))
     go_ret
     exact ⟨rfl, Below.trans hU2 (Below.mono (Below.trans hu hB3) hwb)⟩
set_option maxHeartbeats 8000000 in
theorem rmost_any {v : Value} {N : Int} {l : List Int} {k : Int} {w : World} (hm : Sm w v N l) (hk : I64 k) :
   Calls Tryz.prog 11 #[v, .int .i64 k] w fun r w' => r = .returned (.bool (msV N l k)) /\ Up w w' := by
 have HRT := hid (fun w' (hu : Up w w') => rright_any (hm.up hu))
 have HSm := hid hm
 obtain ⟨s0, rfl, ⟨p, cap, rfl, -, -⟩, -, -, -⟩ := hm
 have hB := Blk.new (w := w) (b := w.heap.size) 24 #[.int .i64 N, .slice p l.length cap] rfl
 have hU := Up.alloc w (.cells #[.int .i64 N, .slice p l.length cap] 24)
 obtain ⟨W0, hW0⟩ : ∃ W0, w.alloc (.cells #[.int .i64 N, .slice p l.length cap] 24) = W0 := ⟨_, rfl⟩
 rw [hW0] at hB hU
 cases hR : rt N l with
 | false =>
   rw [hR] at HRT
   rw [show msV N l k = false from by unfold msV; rw [hR, Bool.false_and]]
   clear hR
   go_enter Tryz.func11, Tryz.ntmps11
   go_wp2_with (first
    | ((with_reducible apply ldM_P); exact rfl; exact rfl; exact hB; exact rfl)
    | (go_at_call 27; (with_reducible refine (HRT.out _ hU).mono ?_); rintro r w1 ⟨rfl, hu1⟩))
   go_ret
   exact ⟨rfl, hU.trans hu1⟩
 | true =>
   rw [hR] at HRT
   obtain ⟨n, rfl, n8⟩ := rt_ofN hR
   have HRW := hid (fun w' (hu : Up w w') => rows_any (HSm.out.up hu) hR (s := -1) (k := k) (by unfold I64; omega) hk)
   obtain ⟨D, hD⟩ : ∃ D, msV n l k = D := ⟨_, rfl⟩
   have hD2 : dfB n (msM n l k) = D := by rw [<- hD]; unfold msV; rw [hR, Bool.true_and]; rfl
   have HDF := hid (fun w' b z G (hb : b <= w'.heap.size) (hO : OwnM w' b z n n G (RE n l (-1) k)) => show Calls Tryz.prog 31 #[z] w' fun r w'' => r = .returned (.bool D) /\ Below b w' w'' from hD2 ▸ rdefinite_any (hO.congr fun i j hi hj => RE_ms l k hi hj) n8 (show 9 <= 100 by decide) (run_bd n8 (msM_abs hR hk)) hb)
   rw [hD]
   clear hR hk HSm hD hD2
   go_enter Tryz.func11, Tryz.ntmps11
   go_wp2_with (first
    | ((with_reducible apply ldM_P); exact rfl; exact rfl; (first | exact hB | exact hB1); exact rfl)
    | (go_at_call 27; (with_reducible refine (HRT.out _ hU).mono ?_); rintro r w1 ⟨rfl, hu1⟩; have hB1 := hB.up hu1; have hU1 := hU.trans hu1)
    | (go_at_call 28; (with_reducible refine (HRW.out _ hU1).mono ?_); rintro r w2 ⟨z2, b2, G2, rfl, hu2, hb2, hb3, hO2⟩)
    | (go_at_call 31; (with_reducible refine (HDF.out _ _ _ _ hb3 hO2).mono ?_); rintro r w3 ⟨rfl, hB3⟩))
   go_ret
   exact ⟨rfl, Below.trans (hU1.trans hu2) (Below.mono hB3 (Nat.le_trans hU1.size hb2))⟩
set_option maxHeartbeats 8000000 in
theorem rbetween_any {v : Value} {N : Int} {l : List Int} {x y : Int} {w : World} (hm : Sm w v N l) (hx : I64 x) (hy : I64 y) :
   Calls Tryz.prog 14 #[v, .int .i64 x, .int .i64 y] w fun r w' => r = .returned (.int .i64 (btC N l x y)) /\ Up w w' := by
 have HR := hid (fun w' (hu : Up w w') => rright_any (hm.up hu))
 have HL := hid (fun w' (hu : Up w w') => rleast_any (hm.up hu) hx)
 have HM := hid (fun w' (hu : Up w w') => rmost_any (hm.up hu) hy)
 obtain ⟨s0, rfl, ⟨p, cap, rfl, -, -⟩, -, -, -⟩ := hm
 obtain ⟨W0, hW0⟩ : ∃ W0, w.alloc (.cells #[.int .i64 N, .slice p l.length cap] 24) = W0 := ⟨_, rfl⟩
 have hB : Blk W0 w.heap.size 24 #[.int .i64 N, .slice p l.length cap] := by rw [<- hW0]; exact Blk.new _ _ rfl
 have hU : Up w W0 := by rw [<- hW0]; exact Up.alloc _ _
 have HC : Hid (btC N l x y = if rt N l = true then (if lsV N l x = true then (if msV N l y = true then 0 else 31) else 30) else 23) := hid rfl
 obtain ⟨C, hC⟩ : ∃ C, btC N l x y = C := ⟨_, rfl⟩
 rw [hC] at HC ⊢
 obtain ⟨a, ha⟩ : ∃ a, rt N l = a := ⟨_, rfl⟩
 obtain ⟨b, hb⟩ : ∃ b, lsV N l x = b := ⟨_, rfl⟩
 obtain ⟨c, hc⟩ : ∃ c, msV N l y = c := ⟨_, rfl⟩
 rw [ha] at HR HC
 rw [hb] at HL HC
 rw [hc] at HM HC
 clear hC ha hb hc hx hy
 cases a with
 | false =>
   have hC : C = 23 := HC.out
   subst hC
   go_enter Tryz.func14, Tryz.ntmps14
   go_wp2_with (first
    | ((with_reducible apply ldM_P); exact rfl; exact rfl; exact hB; exact rfl)
    | (go_at_call 27; (with_reducible refine (HR.out _ hU).mono ?_); rintro r w1 ⟨rfl, hu1⟩))
   go_ret
   exact ⟨rfl, hU.trans hu1⟩
 | true =>
   cases b with
   | false =>
     have hC : C = 30 := HC.out
     subst hC
     go_enter Tryz.func14, Tryz.ntmps14
     go_wp2_with (first
      | ((with_reducible apply ldM_P); exact rfl; exact rfl; (first | exact hB | exact hB1); exact rfl)
      | (go_at_call 27; (with_reducible refine (HR.out _ hU).mono ?_); rintro r w1 ⟨rfl, hu1⟩; have hB1 := hB.up hu1; have hU1 := hU.trans hu1)
      | (go_at_call 9; (with_reducible refine (HL.out _ hU1).mono ?_); rintro r w2 ⟨rfl, hu2⟩))
     go_ret
     exact ⟨rfl, hU1.trans hu2⟩
   | true =>
     have hC : C = if c = true then 0 else 31 := HC.out
     have HC2 := hid hC
     clear hC HC
     cases c with
     | false =>
       have hC : C = 31 := HC2.out
       subst hC
       go_enter Tryz.func14, Tryz.ntmps14
       go_wp2_with (first
        | ((with_reducible apply ldM_P); exact rfl; exact rfl; (first | exact hB | exact hB1 | exact hB2); exact rfl)
        | (go_at_call 27; (with_reducible refine (HR.out _ hU).mono ?_); rintro r w1 ⟨rfl, hu1⟩; have hB1 := hB.up hu1; have hU1 := hU.trans hu1)
        | (go_at_call 9; (with_reducible refine (HL.out _ hU1).mono ?_); rintro r w2 ⟨rfl, hu2⟩; have hB2 := hB1.up hu2; have hU2 := hU1.trans hu2)
        | (go_at_call 11; (with_reducible refine (HM.out _ hU2).mono ?_); rintro r w3 ⟨rfl, hu3⟩))
       go_ret
       exact ⟨rfl, hU2.trans hu3⟩
     | true =>
       have hC : C = 0 := HC2.out
       subst hC
       go_enter Tryz.func14, Tryz.ntmps14
       go_wp2_with (first
        | ((with_reducible apply ldM_P); exact rfl; exact rfl; (first | exact hB | exact hB1 | exact hB2); exact rfl)
        | (go_at_call 27; (with_reducible refine (HR.out _ hU).mono ?_); rintro r w1 ⟨rfl, hu1⟩; have hB1 := hB.up hu1; have hU1 := hU.trans hu1)
        | (go_at_call 9; (with_reducible refine (HL.out _ hU1).mono ?_); rintro r w2 ⟨rfl, hu2⟩; have hB2 := hB1.up hu2; have hU2 := hU1.trans hu2)
        | (go_at_call 11; (with_reducible refine (HM.out _ hU2).mono ?_); rintro r w3 ⟨rfl, hu3⟩))
       go_ret
       exact ⟨rfl, hU2.trans hu3⟩
def MV (w : World) (v : Value) : Prop := ∃ N L, SmO w v N L
theorem MV.up {w w' : World} (hu : Up w w') {v : Value} (h : MV w v) : MV w' v := by obtain ⟨N, L, h⟩ := h; exact ⟨N, L, h.up hu⟩
def Pair (a0 : Int) (s0 : Value) (w : World) (v : Value) : Prop :=
 ∃ g N1 s1 L1, v = .slice (some ⟨g, 0, none⟩) 2 2 /\ Blk w g 24 #[.int .i64 a0, s0, .int .i64 N1, s1] /\ SmO w (.agg #[.int .i64 N1, s1]) N1 L1
theorem Pair.up {a0 : Int} {s0 : Value} {w w' : World} (hu : Up w w') {v : Value} (h : Pair a0 s0 w v) : Pair a0 s0 w' v := by
 obtain ⟨g, N1, s1, L1, h1, h2, h3⟩ := h
 exact ⟨g, N1, s1, L1, h1, h2.up hu, h3.up hu⟩
def IsRowX (k : IntKind) (w : World) (a : Option Addr) (len cap : Nat) (zs : List Int) : Prop :=
 (a = none /\ len = 0 /\ cap = 0 /\ zs = []) \/
 ∃ x, a = some x /\ len <= cap /\ cap <= maxLen /\ zs.length = cap /\ (∀ i, i < zs.length -> w.cell? (x.add i) = some (.int k (zs.getD i 0))) /\ ∀ n ∈ zs, (Lit.int k n).wf = true
theorem zth_take {l : List Int} {k i : Nat} (h : i < k) : zth (l.take k) i = zth l i := by
 unfold zth
 rw [List.getD_eq_getElem?_getD, List.getD_eq_getElem?_getD, List.getElem?_take_of_lt h]
theorem wf_i64 {z : Int} (h : (Lit.int .i64 z).wf = true) : I64 z := by
 have := (Lit.wf_int_iff .i64 z).1 h
 rw [IntKind.min_i64, IntKind.max_i64] at this
 unfold I64; omega
theorem wf_nat {k : IntKind} {z : Int} {m : Nat} (h : (Lit.int k z).wf = true) (h0 : k.min = 0) (h1 : k.max = (m : Int)) : ∃ n : Nat, z = (n : Int) /\ n < m + 1 := by
 have := (Lit.wf_int_iff k z).1 h
 rw [h0, h1] at this
 exact ⟨z.toNat, by omega, by omega⟩
theorem vw_row {w : World} {a : Option Addr} {len cap : Nat} {zs : List Int} (h : IsRowX .i64 w a len cap zs) : Vw w (.slice a len cap) (zs.take len) /\ In64 (zs.take len) := by
 rcases h with ⟨rfl, rfl, rfl, rfl⟩ | ⟨x, rfl, hl, hm, hz, hc, hw⟩
 ·exact ⟨⟨none, 0, rfl, ⟨Nat.le_refl _, fun _ => rfl⟩, fun i hi => absurd hi (Nat.not_lt_zero _)⟩, fun i hi => absurd hi (Nat.not_lt_zero _)⟩
 ·have e : (zs.take len).length = len := by rw [List.length_take]; omega
  refine ⟨⟨some x, cap, by rw [e], ⟨by rw [e]; exact hl, fun e => by cases e⟩, fun i hi => ⟨x, rfl, ?_⟩⟩, fun i hi => ?_⟩
  ·rw [e] at hi
   rw [zth_take hi]
   exact hc i (by omega)
  ·rw [e] at hi
   rw [zth_take hi, zth_get (by omega)]
   exact wf_i64 (hw _ (List.getElem_mem _))
theorem vh_row {w : World} {a : Option Addr} {len cap : Nat} {zs : List Int} (h : IsRowX .i16 w a len cap zs) : Vh w (.slice a len cap) (zs.take len) /\ In16 (zs.take len) := by
 rcases h with ⟨rfl, rfl, rfl, rfl⟩ | ⟨x, rfl, hl, hm, hz, hc, hw⟩
 ·exact ⟨⟨none, 0, rfl, fun i hi => absurd hi (Nat.not_lt_zero _)⟩, fun i hi => absurd hi (Nat.not_lt_zero _)⟩
 ·have e : (zs.take len).length = len := by rw [List.length_take]; omega
  refine ⟨⟨some x, cap, by rw [e], fun i hi => ⟨x, rfl, ?_⟩⟩, fun i hi => ?_⟩
  ·rw [e] at hi
   rw [zth_take hi]
   exact hc i (by omega)
  ·rw [e] at hi
   rw [zth_take hi, zth_get (by omega)]
   have := (Lit.wf_int_iff .i16 _).1 (hw (zs[i]'(by omega)) (List.getElem_mem _))
   rw [IntKind.min_i16, IntKind.max_i16] at this
   omega
theorem bd_fold {P : Program} {c : Code} {Q : Exit -> Act -> World -> Prop} {a : Act} {w : World} (R : World -> Prop) (h : R w) (k : ∀ w', R w' -> c.wp P Q a w') : c.wp P Q a w := k w h
set_option maxHeartbeats 32000000 in
theorem btells_w {w : World} {a0 : Int} {p0 : Option Addr} {len0 cap0 : Nat} {l : List Int} {vh : Value} {hs : List Int} (n d : Nat) (x y : Int) (hg : Glob w) (hraw : Vw w (.slice p0 len0 cap0) l) (ha0 : I64 a0) (hl : In64 l)
   (hn : n < 256) (hd : d < 65536) (hvh : Vh w vh hs) (h16 : In16 hs) (hx : I64 x) (hy : I64 y) :
   Calls Tryz.prog 3 #[.agg #[.int .i64 a0, .slice p0 len0 cap0], .int .u8 (n : Nat), .int .u16 (d : Nat), vh, .int .i64 x, .int .i64 y] w fun r w' => r = .returned (.bool true) /\ Up w w' := by
 have HK := hid (fun w' (hu : Up w w') => bknown_true (hg.up hu))
 have HG := hid (fun w' (hu : Up w w') => hg.up hu)
 have hlen : len0 = l.length := by
  obtain ⟨p, c, e, _⟩ := hraw
  injection e
 obtain ⟨ph, ch, rfl, hhc⟩ := hvh
 obtain ⟨W0, hW0⟩ : ∃ W0, w.alloc (.cells #[.int .i64 a0, .slice p0 len0 cap0] 24) = W0 := ⟨_, rfl⟩
 have hB : Blk W0 w.heap.size 24 #[.int .i64 a0, .slice p0 len0 cap0] := by rw [<- hW0]; exact Blk.new _ _ rfl
 have hU : Up w W0 := by rw [<- hW0]; exact Up.alloc _ _
 by_cases hA : len0 <= 60
 ·have d1 : decide ((60 : Int) < (len0 : Int)) = false := decide_eq_false (by omega)
  by_cases hC : hs.length <= 60
  ·have hSm : Sm w (.agg #[.int .i64 a0, .slice p0 len0 cap0]) a0 l := ⟨_, rfl, hraw, ha0, hl, by omega⟩
   have HSm := hid hSm
   have HST := hid (fun w' (hu : Up w w') => seat_any n d hn hd (show Vh w' (.slice ph hs.length ch) hs from ⟨ph, ch, rfl, fun i hi => by obtain ⟨a, h1, h2⟩ := hhc i hi; exact ⟨a, h1, hu.cellEq h2⟩⟩) h16 hC)
   have HX := hid hx
   have HY := hid hy
   have HD := hid hd
   have d60 : decide ((60 : Int) < (hs.length : Int)) = false := decide_eq_false (by omega)
   clear hraw ha0 hl hhc h16 hg hlen hSm hx hy hn hd
   go_enter Tryz.func3, Tryz.ntmps3
   go_upto_region 5 with (first
    | ((with_reducible apply ldM_P); exact rfl; exact rfl; exact hB; exact rfl)
    | (go_at_call 6; (with_reducible refine (HK.out _ hU).mono ?_); rintro r w1 ⟨rfl, hu1⟩; replace hB := hB.up hu1; replace hU := hU.trans hu1; have hc1 := hB.cell 1 rfl))
   clear hW0 hu1 hc1 d1 d60 HK
   refine wp_region_sp (n := 96) 8 [28, 29, 30, 31, 32, 33, 34, 35] [SP.is (.agg #[.int .i64 a0, .slice p0 len0 cap0]), SP.is (.int .u8 (n : Nat)), SP.is (.int .u16 (d : Nat)), SP.is (.slice ph hs.length ch), SP.of (fun v w1 => MV w1 v) (fun _ _ _ h hu => h.up hu), SP.of (fun v w1 => Pair a0 (.slice p0 len0 cap0) w1 v) (fun _ _ _ h hu => h.up hu), SP.is (.int .i64 2), SP.is (.int .i64 0)] (fun wq => Blk wq w.heap.size 24 #[.int .i64 a0, .slice p0 len0 cap0] /\ Up w wq /\ Below w.heap.size w wq) (by kernel_rfl) (by rfl) (by kernel_rfl) (by kernel_rfl) (fun _ _ h hu => ⟨(h.1).up hu, (h.2.1).trans hu, below_up (h.2.2) hu⟩) ⟨(by first | assumption | exact gBlk), (by first | exact Up.refl _ | assumption), gUp⟩ (fun ev w9 hS9 i o hne hi hev => ?_) (fun gR wE hq hSE huE => ?_)
   ·have ⟨hS1, hS2, hSB⟩ := hS9
    have hcC := hev.const
    have hcF := hev.func
    have hcG := hev.global
    rcases i with _ | _ | _ | _ | _ | _ | _ | _ | i
    ·obtain rfl := oI hi
     have e6 := hev.other 6 (by kernel_rfl)
     simp [Act.eval] at e6
     exact leavesR_value (run_ldME rfl e6 hS1 rfl) rfl
    ·obtain rfl := oI hi
     have e1 := hev.other 1 (by kernel_rfl)
     simp [Act.eval] at e1
     exact lV (.int .u8 (n : Nat))
    ·obtain rfl := oI hi
     have e2 := hev.other 2 (by kernel_rfl)
     simp [Act.eval] at e2
     exact lV (.int .u16 (d : Nat))
    ·obtain rfl := oI hi
     have e3 := hev.other 3 (by kernel_rfl)
     simp [Act.eval] at e3
     exact lV (.slice ph hs.length ch)
    ·obtain rfl := oI hi
     have e29 : ev (.tmp 29) = (.int .u8 (n : Nat)) := hev.dep 1 29 (by kernel_rfl)
     have e30 : ev (.tmp 30) = (.int .u16 (d : Nat)) := hev.dep 2 30 (by kernel_rfl)
     have e31 : ev (.tmp 31) = (.slice ph hs.length ch) := hev.dep 3 31 (by kernel_rfl)
     refine leavesR_call ?_ ((HST.out _ hS2).mono fun _ _ h => by obtain ⟨z, N, L, e, hu, hs, _⟩ := h; exact ⟨hu, z, e, N, L, hs⟩)
     go_simp
    ·obtain rfl := oI hi
     have e28 : ev (.tmp 28) = (.agg #[.int .i64 a0, .slice p0 len0 cap0]) := hev.dep 0 28 (by kernel_rfl)
     have e32 : (fun v w1 => MV w1 v) (ev (.tmp 32)) w9 := hev.dep 4 32 (by kernel_rfl)
     dsimp only at e32
     obtain ⟨v32, hv32⟩ : ∃ v, ev (.tmp 32) = v := ⟨_, rfl⟩
     rw [hv32] at e32
     obtain ⟨N1, L1, hM⟩ := e32; obtain ⟨s1, base1, rfl, hO1, hr1⟩ := hM; obtain ⟨p1, n1, c1, rfl⟩ := OwnI.slice hO1; exact leavesR_up (u := .slice (some ⟨w9.heap.size, 0, none⟩) 2 2) (w' := w9.alloc (.cells #[.int .i64 a0, .slice p0 len0 cap0, .int .i64 N1, .slice p1 n1 c1] 24)) (by go_simp) (Up.alloc _ _) ⟨_, N1, _, L1, rfl, Blk.new _ _ rfl, _, base1, rfl, OwnI.up (Up.alloc _ _) hO1, hr1⟩
    ·obtain rfl := oI hi
     have e33 : (fun v w1 => Pair a0 (.slice p0 len0 cap0) w1 v) (ev (.tmp 33)) w9 := hev.dep 5 33 (by kernel_rfl)
     dsimp only at e33
     obtain ⟨v33, hv33⟩ : ∃ v, ev (.tmp 33) = v := ⟨_, rfl⟩
     rw [hv33] at e33
     obtain ⟨g1, N1, s1, L1, rfl, -, -⟩ := e33; exact leavesR_value (u := .int .i64 2) (by go_simp) rfl
    ·obtain rfl := oI hi
     exact lV (.int .i64 0)
    ·exact absurd (show i + 8 < 8 from (Array.getElem?_eq_some_iff.1 hi).1) (by omega)
   have ⟨hS1, hS2, hSB⟩ := hSE
   have q0 : gR 28 = (.agg #[.int .i64 a0, .slice p0 len0 cap0]) := hq 0 28 (by decide) (by kernel_rfl)
   have q1 : gR 29 = (.int .u8 (n : Nat)) := hq 1 29 (by decide) (by kernel_rfl)
   have q2 : gR 30 = (.int .u16 (d : Nat)) := hq 2 30 (by decide) (by kernel_rfl)
   have q3 : gR 31 = (.slice ph hs.length ch) := hq 3 31 (by decide) (by kernel_rfl)
   have q4 : (fun v w1 => MV w1 v) (gR 32) wE := hq 4 32 (by decide) (by kernel_rfl)
   dsimp only at q4
   obtain ⟨v32, hv32⟩ : ∃ v, gR 32 = v := ⟨_, rfl⟩
   rw [hv32] at q4
   have q5 : (fun v w1 => Pair a0 (.slice p0 len0 cap0) w1 v) (gR 33) wE := hq 5 33 (by decide) (by kernel_rfl)
   dsimp only at q5
   obtain ⟨v33, hv33⟩ : ∃ v, gR 33 = v := ⟨_, rfl⟩
   rw [hv33] at q5
   have q6 : gR 34 = (.int .i64 2) := hq 6 34 (by decide) (by kernel_rfl)
   have q7 : gR 35 = (.int .i64 0) := hq 7 35 (by decide) (by kernel_rfl)
   refine ⟨fun _ => ?_, fun o ho => by simp at ho⟩
   simp only [putL, List.map_cons, List.map_nil, q0, q1, q2, q3, hv32, hv33, q6, q7, Act.put, pu1, pu2, pu3]
   clear hq hSE q0 q1 q2 q3 q6 q7
   obtain ⟨g1, N1, s1, L1, rfl, hP, hS1m⟩ := q5
   have hS0m := HSm.out.up hS2
   have HS0 := hid hS0m
   have HS1 := hid hS1m.sm
   have HP := hid hP
   obtain ⟨wJ, hwJ⟩ : ∃ y, wE = y := ⟨_, rfl⟩
   have hUE := hS2
   rw [hwJ] at HS0 HS1 HP hUE ⊢
   have HGE := hid (fun w' (hu : Up wJ w') => HG.out w' (hUE.trans hu))
   have HUE := hid hUE
   clear q4 hS1 hS2 hSB huE hB hU hS0m hS1m hP HSm HST hwJ hUE HG
   obtain ⟨p1, n1, c1, rfl⟩ : ∃ p n c, s1 = .slice p n c := by
    obtain ⟨s', e1, ⟨p', c', e2, _⟩, _⟩ := HS1.out
    subst e2
    injection e1 with e1
    simp at e1
    exact ⟨_, _, _, e1⟩
   have HMM : Hid (∀ k, k < 2 -> ∃ NM pM nM cM LM, (∀ w', Up wJ w' -> w'.cell? ⟨g1, k * 2, none⟩ = some (.int .i64 NM) /\ w'.cell? ⟨g1, k * 2 + 1, none⟩ = some (.slice pM nM cM)) /\ Sm wJ (.agg #[.int .i64 NM, .slice pM nM cM]) NM LM) := hid (fun k hk => by
    rcases k with _ | _ | k
    ·exact ⟨a0, p0, len0, cap0, l, fun w' hu => ⟨(HP.out.up hu).cell 0 rfl, (HP.out.up hu).cell 1 rfl⟩, HS0.out⟩
    ·exact ⟨N1, p1, n1, c1, L1, fun w' hu => ⟨(HP.out.up hu).cell 2 rfl, (HP.out.up hu).cell 3 rfl⟩, HS1.out⟩
    ·omega)
   clear HP HS0 HS1 hv32 hv33
   obtain ⟨dd, hdd⟩ : ∃ dd : Int, ((d % 5000 : Nat) : Int) = dd := ⟨_, rfl⟩
   have hd0 : 0 <= dd /\ dd < 5000 := by omega
   have et : (d : Int).tmod 5000 = dd := by rw [<- hdd, show (5000 : Int) = ((5000 : Nat) : Int) from rfl, <- Int.ofNat_tmod]
   have ea : IntKind.i64.wrap dd = dd := IntWalk.i64_in _ (by omega)
   have eb : IntKind.i64.wrap (dd - 1) = dd - 1 := IntWalk.i64_in _ (by omega)
   have HDD := hid (show I64 (dd - 1) from by unfold I64; omega)
   clear hdd hd0
   go_wp2_with fail
   go_loopg [35] 2 (fun g tk wr => ∃ k : Nat, k <= 2 /\ 2 - k <= g /\ tk = .int .i64 (k : Nat) /\ Up wJ wr)
   case atStart => exact ⟨0, by omega, by omega, rfl, Up.refl _⟩
   case round =>
    obtain ⟨k, hk, hkg, rfl, hu⟩ := hrel
    by_cases hlt : k < 2
    ·obtain ⟨NM, pM, nM, cM, LM, hcM, hSM⟩ := HMM.out k hlt
     obtain ⟨hcx0, hcx1⟩ := hcM _ hu
     have HSM0 := hid hSM
     have dk : decide ((k : Int) < 2) = true := decide_eq_true (by omega)
     clear hcM hSM
     go_upto_region 8 with (first
      | ((with_reducible apply stM_P); exact rfl; exact rfl; exact Blk.new _ _ rfl; exact rfl; exact rfl; exact two2 _ _ _ _ _))
     refine bd_fold (fun wd => Up wr wd /\ Blk wd wr.heap.size 24 #[.int .i64 NM, .slice pM nM cM]) ⟨gUp, gBlk⟩ (fun wA hA => ?_)
     obtain ⟨huA, hbm⟩ := hA
     have hUA := hu.trans huA
     obtain ⟨bm, hbm9⟩ : ∃ x, wr.heap.size = x := ⟨_, rfl⟩
     rw [hbm9] at hbm ⊢
     have HSA := hid (HSM0.out.up hUA)
     have HUA := hid hUA
     clear hcx0 hcx1 hu huA hbm9 HSM0
     go_upto_region 9 with fail
     have hi1 := bits_in BinOp.and x 1023
     have hi2 := bits_in BinOp.and y 16777215
     obtain ⟨x1, hx1⟩ : ∃ z, bits BinOp.and IntKind.i64 x 1023 = z := ⟨_, rfl⟩
     obtain ⟨y1, hy1⟩ : ∃ z, bits BinOp.and IntKind.i64 y 16777215 = z := ⟨_, rfl⟩
     rw [hx1] at hi1 ⊢
     rw [hy1] at hi2 ⊢
     refine bd_fold (fun wd => Up wA wd /\ Blk wd wA.heap.size 30 #[.int .i64 x, .int .i64 y, .int .i64 x1, .int .i64 y1, .int .i64 (dd - 1), .int .i64 268435456]) ⟨Up.alloc _ _, Blk.new _ _ rfl⟩ (fun wC h6 => ?_)
     obtain ⟨hu6, hb6⟩ := h6
     obtain ⟨g2, hg2⟩ : ∃ y, wA.heap.size = y := ⟨_, rfl⟩
     rw [hg2] at hb6 ⊢
     have HPP : Hid (∀ q, q < 3 -> ∃ xq yq, I64 xq /\ I64 yq /\ ∀ w', Up wC w' -> w'.cell? ⟨g2, q * 2, none⟩ = some (.int .i64 xq) /\ w'.cell? ⟨g2, q * 2 + 1, none⟩ = some (.int .i64 yq)) := hid (fun q hq => by
      rcases q with _ | _ | _ | q
      ·exact ⟨x, y, HX.out, HY.out, fun w' hu => ⟨(hb6.up hu).cell 0 rfl, (hb6.up hu).cell 1 rfl⟩⟩
      ·exact ⟨x1, y1, hi1, hi2, fun w' hu => ⟨(hb6.up hu).cell 2 rfl, (hb6.up hu).cell 3 rfl⟩⟩
      ·exact ⟨dd - 1, 268435456, HDD.out, by unfold I64; decide, fun w' hu => ⟨(hb6.up hu).cell 4 rfl, (hb6.up hu).cell 5 rfl⟩⟩
      ·omega)
     have hbC := hbm.up hu6
     have HSC := hid (HSA.out.up hu6)
     have hUC := HUA.out.trans hu6
     have HUC := hid hUC
     have HGC := hid (fun w' (hu : Up wC w') => HGE.out w' (hUC.trans hu))
     clear hb6 hu6 hi1 hi2 hx1 hy1 hg2 hbm HSA HUA hUA hUC
     go_loopg [54] 3 (fun g tk wr => ∃ q : Nat, q <= 3 /\ 3 - q <= g /\ tk = .int .i64 (q : Nat) /\ Up wC wr)
     case atStart => exact ⟨0, by omega, by omega, rfl, Up.refl _⟩
     case round =>
      obtain ⟨q, hq, hqg, rfl, hu⟩ := hrel
      by_cases hq3 : q < 3
      ·obtain ⟨xq, yq, hIx, hIy, hcM⟩ := HPP.out q hq3
       obtain ⟨hcx0, hcx1⟩ := hcM _ hu
       have dq : decide ((q : Int) < 3) = true := decide_eq_true (by omega)
       clear hcM
       go_upto_region 11 with fail
       refine bd_fold (fun wd => Up wr wd /\ Blk wd wr.heap.size 30 #[.int .i64 xq, .int .i64 yq]) ⟨Up.alloc _ _, Blk.new _ _ rfl⟩ (fun wD h7 => ?_)
       obtain ⟨hu7, hb7⟩ := h7
       obtain ⟨g3, hg3⟩ : ∃ y, wr.heap.size = y := ⟨_, rfl⟩
       rw [hg3] at hb7 ⊢
       have hUD := hu.trans hu7
       have hbD := hbC.up hUD
       have HL := hid (fun w' (hu : Up wC w') => least_any (HSC.out.up hu) hIx)
       have HRL := hid (fun w' (hu : Up wC w') => rleast_any (HSC.out.up hu) hIx)
       have HM := hid (fun w' (hu : Up wC w') => most_any (HSC.out.up hu) hIy)
       have HRM := hid (fun w' (hu : Up wC w') => rmost_any (HSC.out.up hu) hIy)
       have HT := hid (fun w' (hu : Up wC w') => between_any (HSC.out.up hu) hIx hIy)
       have HRT := hid (fun w' (hu : Up wC w') => rbetween_any (HSC.out.up hu) hIx hIy)
       obtain ⟨A, hA⟩ : ∃ z, lsV NM LM xq = z := ⟨_, rfl⟩
       obtain ⟨B, hB⟩ : ∃ z, msV NM LM yq = z := ⟨_, rfl⟩
       obtain ⟨C, hC⟩ : ∃ z, btC NM LM xq yq = z := ⟨_, rfl⟩
       rw [hA] at HL HRL
       rw [hB] at HM HRM
       rw [hC] at HT HRT
       have dA : (A != A) = false := by simp
       have dB : (B != B) = false := by simp
       clear hA hB hC hIx hIy hcx0 hcx1 hg3 hu hu7
       refine wp_region_sg (n := 96) 36 [58, 59, 60, 61, 62, 63, 64, 65, 66, 67, 68, 69, 70, 71, 72, 73, 74, 75, 76, 77, 78, 79, 80, 81, 82, 83, 84, 85, 86, 87, 88, 89, 90, 91, 92, 93] [SG.is (.agg #[.int .i64 NM, .slice pM nM cM]), SG.is (.pointer (some ⟨g3, 0, none⟩)), SG.is (.int .i64 xq), SG.is (.bool A), SG.is (.agg #[.int .i64 NM, .slice pM nM cM]), SG.is (.pointer (some ⟨g3, 0, none⟩)), SG.is (.int .i64 xq), SG.is (.bool A), SG.is (.bool false), SG.tt false, SG.is (.agg #[.int .i64 NM, .slice pM nM cM]), SG.is (.pointer (some ⟨g3, 1, none⟩)), SG.is (.int .i64 yq), SG.is (.bool B), SG.is (.agg #[.int .i64 NM, .slice pM nM cM]), SG.is (.pointer (some ⟨g3, 1, none⟩)), SG.is (.int .i64 yq), SG.is (.bool B), SG.is (.bool false), SG.is (.bool false), SG.tt false, SG.is (.agg #[.int .i64 NM, .slice pM nM cM]), SG.is (.pointer (some ⟨g3, 0, none⟩)), SG.is (.int .i64 xq), SG.is (.pointer (some ⟨g3, 1, none⟩)), SG.is (.int .i64 yq), SG.of (fun v w1 => ErrsB w1 v C) (fun _ _ _ h hu => ErrsB.up hu h), SG.is (.agg #[.int .i64 NM, .slice pM nM cM]), SG.is (.pointer (some ⟨g3, 0, none⟩)), SG.is (.int .i64 xq), SG.is (.pointer (some ⟨g3, 1, none⟩)), SG.is (.int .i64 yq), SG.is (.int .i64 C), SG.is (.bool true), SG.is (.bool false), SG.is (.bool false)] (fun wq => Blk wq bm 24 #[.int .i64 NM, .slice pM nM cM] /\ Blk wq g3 30 #[.int .i64 xq, .int .i64 yq] /\ Up wC wq /\ Below w.heap.size w wq) (by kernel_rfl) (by rfl) (by kernel_rfl) (by kernel_rfl) (fun _ _ h hu => ⟨(h.1).up hu, (h.2.1).up hu, (h.2.2.1).trans hu, below_up (h.2.2.2) hu⟩) ⟨(by first | assumption | exact gBlk), (by first | assumption | exact gBlk), (by first | exact Up.refl _ | assumption), gUp⟩ (fun ev w9 hS9 i o hne hi hwt hev => ?_) (fun gR wE hq hSE huE => ?_)
       ·have ⟨hS1, hS2, hS3, hSB⟩ := hS9
        have hcC := hev.const
        have hcF := hev.func
        have hcG := hev.global
        rcases i with _ | _ | _ | _ | _ | _ | _ | _ | _ | _ | _ | _ | _ | _ | _ | _ | _ | _ | _ | _ | _ | _ | _ | _ | _ | _ | _ | _ | _ | _ | _ | _ | _ | _ | _ | _ | i
        ·obtain rfl := oI hi
         have e14 := hev.other 14 (by kernel_rfl)
         simp [Act.eval] at e14
         exact leavesR_value (run_ldME rfl (by go_simp) hS1 rfl) rfl
        ·obtain rfl := oI hi
         have e16 := hev.other 16 (by kernel_rfl)
         simp [Act.eval] at e16
         exact lV (.pointer (some ⟨g3, 0, none⟩))
        ·obtain rfl := oI hi
         have e59 : ev (.tmp 59) = (.pointer (some ⟨g3, 0, none⟩)) := hev.dep 1 59 (by kernel_rfl)
         have hcx := hS2.cell 0 rfl; exact leavesR_value (u := .int .i64 xq) (by go_simp) rfl
        ·obtain rfl := oI hi
         have e58 : ev (.tmp 58) = (.agg #[.int .i64 NM, .slice pM nM cM]) := hev.dep 0 58 (by kernel_rfl)
         have e60 : ev (.tmp 60) = (.int .i64 xq) := hev.dep 2 60 (by kernel_rfl)
         refine leavesR_call ?_ ((HL.out _ hS3).mono fun _ _ h => ⟨h.2, _, h.1, rfl⟩)
         go_simp
        ·obtain rfl := oI hi
         have e14 := hev.other 14 (by kernel_rfl)
         simp [Act.eval] at e14
         exact leavesR_value (run_ldME rfl (by go_simp) hS1 rfl) rfl
        ·obtain rfl := oI hi
         have e16 := hev.other 16 (by kernel_rfl)
         simp [Act.eval] at e16
         exact lV (.pointer (some ⟨g3, 0, none⟩))
        ·obtain rfl := oI hi
         have e63 : ev (.tmp 63) = (.pointer (some ⟨g3, 0, none⟩)) := hev.dep 5 63 (by kernel_rfl)
         have hcx := hS2.cell 0 rfl; exact leavesR_value (u := .int .i64 xq) (by go_simp) rfl
        ·obtain rfl := oI hi
         have e62 : ev (.tmp 62) = (.agg #[.int .i64 NM, .slice pM nM cM]) := hev.dep 4 62 (by kernel_rfl)
         have e64 : ev (.tmp 64) = (.int .i64 xq) := hev.dep 6 64 (by kernel_rfl)
         refine leavesR_call ?_ ((HRL.out _ hS3).mono fun _ _ h => ⟨h.2, _, h.1, rfl⟩)
         go_simp
        ·obtain rfl := oI hi
         have e61 : ev (.tmp 61) = (.bool A) := hev.dep 3 61 (by kernel_rfl)
         have e65 : ev (.tmp 65) = (.bool A) := hev.dep 7 65 (by kernel_rfl)
         exact lV (.bool false)
        ·obtain rfl := oI hi
         have e66 : ev (.tmp 66) = (.bool false) := hev.dep 8 66 (by kernel_rfl)
         exact lV (.bool false)
        ·obtain rfl := oI hi
         have e14 := hev.other 14 (by kernel_rfl)
         simp [Act.eval] at e14
         exact leavesR_value (run_ldME rfl (by go_simp) hS1 rfl) rfl
        ·obtain rfl := oI hi
         have e16 := hev.other 16 (by kernel_rfl)
         simp [Act.eval] at e16
         exact lV (.pointer (some ⟨g3, 1, none⟩))
        ·obtain rfl := oI hi
         have e69 : ev (.tmp 69) = (.pointer (some ⟨g3, 1, none⟩)) := hev.dep 11 69 (by kernel_rfl)
         have hcx := hS2.cell 1 rfl; exact leavesR_value (u := .int .i64 yq) (by go_simp) rfl
        ·obtain rfl := oI hi
         have e68 : ev (.tmp 68) = (.agg #[.int .i64 NM, .slice pM nM cM]) := hev.dep 10 68 (by kernel_rfl)
         have e70 : ev (.tmp 70) = (.int .i64 yq) := hev.dep 12 70 (by kernel_rfl)
         refine leavesR_call ?_ ((HM.out _ hS3).mono fun _ _ h => ⟨h.2, _, h.1, rfl⟩)
         go_simp
        ·obtain rfl := oI hi
         have e14 := hev.other 14 (by kernel_rfl)
         simp [Act.eval] at e14
         exact leavesR_value (run_ldME rfl (by go_simp) hS1 rfl) rfl
        ·obtain rfl := oI hi
         have e16 := hev.other 16 (by kernel_rfl)
         simp [Act.eval] at e16
         exact lV (.pointer (some ⟨g3, 1, none⟩))
        ·obtain rfl := oI hi
         have e73 : ev (.tmp 73) = (.pointer (some ⟨g3, 1, none⟩)) := hev.dep 15 73 (by kernel_rfl)
         have hcx := hS2.cell 1 rfl; exact leavesR_value (u := .int .i64 yq) (by go_simp) rfl
        ·obtain rfl := oI hi
         have e72 : ev (.tmp 72) = (.agg #[.int .i64 NM, .slice pM nM cM]) := hev.dep 14 72 (by kernel_rfl)
         have e74 : ev (.tmp 74) = (.int .i64 yq) := hev.dep 16 74 (by kernel_rfl)
         refine leavesR_call ?_ ((HRM.out _ hS3).mono fun _ _ h => ⟨h.2, _, h.1, rfl⟩)
         go_simp
        ·obtain rfl := oI hi
         have e71 : ev (.tmp 71) = (.bool B) := hev.dep 13 71 (by kernel_rfl)
         have e75 : ev (.tmp 75) = (.bool B) := hev.dep 17 75 (by kernel_rfl)
         exact lV (.bool false)
        ·obtain rfl := oI hi
         have e67 : ev (.tmp 67) = (.bool false) := hev.dep 9 67 (by kernel_rfl)
         have e76 : ev (.tmp 76) = (.bool false) := hev.dep 18 76 (by kernel_rfl)
         exact lV (.bool false)
        ·obtain rfl := oI hi
         have e77 : ev (.tmp 77) = (.bool false) := hev.dep 19 77 (by kernel_rfl)
         exact lV (.bool false)
        ·obtain rfl := oI hi
         have e14 := hev.other 14 (by kernel_rfl)
         simp [Act.eval] at e14
         exact leavesR_value (run_ldME rfl (by go_simp) hS1 rfl) rfl
        ·obtain rfl := oI hi
         have e16 := hev.other 16 (by kernel_rfl)
         simp [Act.eval] at e16
         exact lV (.pointer (some ⟨g3, 0, none⟩))
        ·obtain rfl := oI hi
         have e80 : ev (.tmp 80) = (.pointer (some ⟨g3, 0, none⟩)) := hev.dep 22 80 (by kernel_rfl)
         have hcx := hS2.cell 0 rfl; exact leavesR_value (u := .int .i64 xq) (by go_simp) rfl
        ·obtain rfl := oI hi
         have e16 := hev.other 16 (by kernel_rfl)
         simp [Act.eval] at e16
         exact lV (.pointer (some ⟨g3, 1, none⟩))
        ·obtain rfl := oI hi
         have e82 : ev (.tmp 82) = (.pointer (some ⟨g3, 1, none⟩)) := hev.dep 24 82 (by kernel_rfl)
         have hcx := hS2.cell 1 rfl; exact leavesR_value (u := .int .i64 yq) (by go_simp) rfl
        ·obtain rfl := oI hi
         have e79 : ev (.tmp 79) = (.agg #[.int .i64 NM, .slice pM nM cM]) := hev.dep 21 79 (by kernel_rfl)
         have e81 : ev (.tmp 81) = (.int .i64 xq) := hev.dep 23 81 (by kernel_rfl)
         have e83 : ev (.tmp 83) = (.int .i64 yq) := hev.dep 25 83 (by kernel_rfl)
         refine leavesR_call ?_ ((HT.out _ hS3).mono fun _ _ ⟨u, h1, h2, h3⟩ => ⟨h2, u, h1, h3⟩)
         go_simp
        ·obtain rfl := oI hi
         have e14 := hev.other 14 (by kernel_rfl)
         simp [Act.eval] at e14
         exact leavesR_value (run_ldME rfl (by go_simp) hS1 rfl) rfl
        ·obtain rfl := oI hi
         have e16 := hev.other 16 (by kernel_rfl)
         simp [Act.eval] at e16
         exact lV (.pointer (some ⟨g3, 0, none⟩))
        ·obtain rfl := oI hi
         have e86 : ev (.tmp 86) = (.pointer (some ⟨g3, 0, none⟩)) := hev.dep 28 86 (by kernel_rfl)
         have hcx := hS2.cell 0 rfl; exact leavesR_value (u := .int .i64 xq) (by go_simp) rfl
        ·obtain rfl := oI hi
         have e16 := hev.other 16 (by kernel_rfl)
         simp [Act.eval] at e16
         exact lV (.pointer (some ⟨g3, 1, none⟩))
        ·obtain rfl := oI hi
         have e88 : ev (.tmp 88) = (.pointer (some ⟨g3, 1, none⟩)) := hev.dep 30 88 (by kernel_rfl)
         have hcx := hS2.cell 1 rfl; exact leavesR_value (u := .int .i64 yq) (by go_simp) rfl
        ·obtain rfl := oI hi
         have e85 : ev (.tmp 85) = (.agg #[.int .i64 NM, .slice pM nM cM]) := hev.dep 27 85 (by kernel_rfl)
         have e87 : ev (.tmp 87) = (.int .i64 xq) := hev.dep 29 87 (by kernel_rfl)
         have e89 : ev (.tmp 89) = (.int .i64 yq) := hev.dep 31 89 (by kernel_rfl)
         refine leavesR_call ?_ ((HRT.out _ hS3).mono fun _ _ h => ⟨h.2, _, h.1, rfl⟩)
         go_simp
        ·obtain rfl := oI hi
         have e84 : (fun v w1 => ErrsB w1 v C) (ev (.tmp 84)) w9 := hev.dep 26 84 (by kernel_rfl)
         dsimp only at e84
         obtain ⟨v84, hv84⟩ : ∃ v, ev (.tmp 84) = v := ⟨_, rfl⟩
         rw [hv84] at e84
         have e90 : ev (.tmp 90) = (.int .i64 C) := hev.dep 32 90 (by kernel_rfl)
         refine leavesR_call ?_ ((bsays_any e84 (HGC.out _ hS3)).mono fun _ _ h => ⟨h.2, _, h.1, rfl⟩)
         go_simp
        ·obtain rfl := oI hi
         have e91 : ev (.tmp 91) = (.bool true) := hev.dep 33 91 (by kernel_rfl)
         exact lV (.bool false)
        ·obtain rfl := oI hi
         have e78 : ev (.tmp 78) = (.bool false) := hev.dep 20 78 (by kernel_rfl)
         have e92 : ev (.tmp 92) = (.bool false) := hev.dep 34 92 (by kernel_rfl)
         exact lV (.bool false)
        ·exact absurd (show i + 36 < 36 from (Array.getElem?_eq_some_iff.1 hi).1) (by omega)
       have ⟨hS1, hS2, hS3, hSB⟩ := hSE
       have q0 : gR 58 = (.agg #[.int .i64 NM, .slice pM nM cM]) := hq 0 58 (by decide) (by kernel_rfl)
       have q1 : gR 59 = (.pointer (some ⟨g3, 0, none⟩)) := hq 1 59 (by decide) (by kernel_rfl)
       have q2 : gR 60 = (.int .i64 xq) := hq 2 60 (by decide) (by kernel_rfl)
       have q3 : gR 61 = (.bool A) := hq 3 61 (by decide) (by kernel_rfl)
       have q4 : gR 62 = (.agg #[.int .i64 NM, .slice pM nM cM]) := hq 4 62 (by decide) (by kernel_rfl)
       have q5 : gR 63 = (.pointer (some ⟨g3, 0, none⟩)) := hq 5 63 (by decide) (by kernel_rfl)
       have q6 : gR 64 = (.int .i64 xq) := hq 6 64 (by decide) (by kernel_rfl)
       have q7 : gR 65 = (.bool A) := hq 7 65 (by decide) (by kernel_rfl)
       have q8 : gR 66 = (.bool false) := hq 8 66 (by decide) (by kernel_rfl)
       have q9 : gR 67 = (.bool false) := hq 9 67 (by decide) (by kernel_rfl)
       have q10 : gR 68 = (.agg #[.int .i64 NM, .slice pM nM cM]) := hq 10 68 (by decide) (by kernel_rfl)
       have q11 : gR 69 = (.pointer (some ⟨g3, 1, none⟩)) := hq 11 69 (by decide) (by kernel_rfl)
       have q12 : gR 70 = (.int .i64 yq) := hq 12 70 (by decide) (by kernel_rfl)
       have q13 : gR 71 = (.bool B) := hq 13 71 (by decide) (by kernel_rfl)
       have q14 : gR 72 = (.agg #[.int .i64 NM, .slice pM nM cM]) := hq 14 72 (by decide) (by kernel_rfl)
       have q15 : gR 73 = (.pointer (some ⟨g3, 1, none⟩)) := hq 15 73 (by decide) (by kernel_rfl)
       have q16 : gR 74 = (.int .i64 yq) := hq 16 74 (by decide) (by kernel_rfl)
       have q17 : gR 75 = (.bool B) := hq 17 75 (by decide) (by kernel_rfl)
       have q18 : gR 76 = (.bool false) := hq 18 76 (by decide) (by kernel_rfl)
       have q19 : gR 77 = (.bool false) := hq 19 77 (by decide) (by kernel_rfl)
       have q20 : gR 78 = (.bool false) := hq 20 78 (by decide) (by kernel_rfl)
       have q21 : gR 79 = (.agg #[.int .i64 NM, .slice pM nM cM]) := hq 21 79 (by decide) (by kernel_rfl)
       have q22 : gR 80 = (.pointer (some ⟨g3, 0, none⟩)) := hq 22 80 (by decide) (by kernel_rfl)
       have q23 : gR 81 = (.int .i64 xq) := hq 23 81 (by decide) (by kernel_rfl)
       have q24 : gR 82 = (.pointer (some ⟨g3, 1, none⟩)) := hq 24 82 (by decide) (by kernel_rfl)
       have q25 : gR 83 = (.int .i64 yq) := hq 25 83 (by decide) (by kernel_rfl)
       have q26 : (fun v w1 => ErrsB w1 v C) (gR 84) wE := hq 26 84 (by decide) (by kernel_rfl)
       dsimp only at q26
       obtain ⟨v84, hv84⟩ : ∃ v, gR 84 = v := ⟨_, rfl⟩
       rw [hv84] at q26
       have q27 : gR 85 = (.agg #[.int .i64 NM, .slice pM nM cM]) := hq 27 85 (by decide) (by kernel_rfl)
       have q28 : gR 86 = (.pointer (some ⟨g3, 0, none⟩)) := hq 28 86 (by decide) (by kernel_rfl)
       have q29 : gR 87 = (.int .i64 xq) := hq 29 87 (by decide) (by kernel_rfl)
       have q30 : gR 88 = (.pointer (some ⟨g3, 1, none⟩)) := hq 30 88 (by decide) (by kernel_rfl)
       have q31 : gR 89 = (.int .i64 yq) := hq 31 89 (by decide) (by kernel_rfl)
       have q32 : gR 90 = (.int .i64 C) := hq 32 90 (by decide) (by kernel_rfl)
       have q33 : gR 91 = (.bool true) := hq 33 91 (by decide) (by kernel_rfl)
       have q34 : gR 92 = (.bool false) := hq 34 92 (by decide) (by kernel_rfl)
       have q35 : gR 93 = (.bool false) := hq 35 93 (by decide) (by kernel_rfl)
       refine ⟨fun _ => ?_, fun o ho => by simp at ho⟩
       simp only [putL, List.map_cons, List.map_nil, q0, q1, q2, q3, q4, q5, q6, q7, q8, q9, q10, q11, q12, q13, q14, q15, q16, q17, q18, q19, q20, q21, q22, q23, q24, q25, hv84, q27, q28, q29, q30, q31, q32, q33, q34, q35, Act.put, pu1, pu2, pu3]
       clear hq hSE q0 q1 q2 q3 q4 q5 q6 q7 q8 q9 q10 q11 q12 q13 q14 q15 q16 q17 q18 q19 q20 q21 q22 q23 q24 q25 q27 q28 q29 q30 q31 q32 q33 q34 q35
       have hUF := hS3
       clear hS1 hS2 hS3 hSB huE q26 HL HRL HM HRM HT HRT
       go_wp2_with fail
       go_roundg (3 - (q + 1))
       case measure => omega
       case rel => exact ⟨q + 1, by omega, Nat.le_refl _, rfl, hUF⟩
      ·obtain rfl : q = 3 := by omega
       go_wp2_with fail
       go_roundg (2 - (k + 1))
       case measure => omega
       case rel => exact ⟨k + 1, by omega, Nat.le_refl _, rfl, HUC.out.trans hu⟩
    ·obtain rfl : k = 2 := by omega
     go_wp2_with fail
     go_ret
     exact ⟨rfl, HUE.out.trans hu⟩
  ·have d60 : decide ((60 : Int) < (hs.length : Int)) = true := decide_eq_true (by omega)
   clear hraw ha0 hl hhc h16 hg hlen hx hy hn hd
   go_enter Tryz.func3, Tryz.ntmps3
   go_wp2_with (first
    | ((with_reducible apply ldM_P); exact rfl; exact rfl; exact hB; exact rfl)
    | (go_at_call 6; (with_reducible refine (HK.out _ hU).mono ?_); rintro r w1 ⟨rfl, hu1⟩; replace hB := hB.up hu1; replace hU := hU.trans hu1; have hc1 := hB.cell 1 rfl))
   go_ret
   exact ⟨rfl, hU⟩
 ·have d1 : decide ((60 : Int) < (len0 : Int)) = true := decide_eq_true (by omega)
  clear hraw ha0 hl hhc h16 hg hlen hx hy hn hd
  go_enter Tryz.func3, Tryz.ntmps3
  go_wp2_with (first
   | ((with_reducible apply ldM_P); exact rfl; exact rfl; exact hB; exact rfl)
   | (go_at_call 6; (with_reducible refine (HK.out _ hU).mono ?_); rintro r w1 ⟨rfl, hu1⟩; replace hB := hB.up hu1; replace hU := hU.trans hu1; have hc1 := hB.cell 1 rfl))
  go_ret
  exact ⟨rfl, hU⟩
theorem btells_row {w : World} {a0 a1 a2 a4 a5 : Int} {p0 p3 : Option Addr} {len0 cap0 len3 cap3 : Nat} {z0 z3 : List Int} (hg : Glob w) (wf0 : (Lit.int .i64 a0).wf = true) (w0 : IsRowX .i64 w p0 len0 cap0 z0)
   (w1 : (Lit.int .u8 a1).wf = true) (w2 : (Lit.int .u16 a2).wf = true) (w3 : IsRowX .i16 w p3 len3 cap3 z3) (w4 : (Lit.int .i64 a4).wf = true) (w5 : (Lit.int .i64 a5).wf = true) :
   Calls Tryz.prog 3 #[.agg #[.int .i64 a0, .slice p0 len0 cap0], .int .u8 a1, .int .u16 a2, .slice p3 len3 cap3, .int .i64 a4, .int .i64 a5] w fun r w' => r = .returned (.bool true) /\ Up w w' := by
 obtain ⟨n, rfl, hn⟩ := wf_nat (m := 255) w1 IntKind.min_u8 IntKind.max_u8
 obtain ⟨d, rfl, hd⟩ := wf_nat (m := 65535) w2 IntKind.min_u16 IntKind.max_u16
 exact btells_w n d a4 a5 hg (vw_row w0).1 (wf_i64 wf0) (vw_row w0).2 hn hd (vh_row w3).1 (vh_row w3).2 (wf_i64 w4) (wf_i64 w5)
end Go.Proofs.YtdpgpchcgmmklaaGreatDoor
namespace Go.Proofs.YtdpgpchcgmmklaaGreatDoor
open Go.ChangeShapes Go.WideShapes Go.RowKit
set_option maxRecDepth 100000
theorem own4 : ownKnob Tryz.prog.godebug = none := by kernel_rfl
theorem et4 : Tryz.prog.globalNamed "errors.errorType" = some 0 := by kernel_rfl
theorem rt4 : (Tryz.prog.cutTypes.find? (·.1 == "internal/reflectlite.rtype")).map (·.2) = some 138 := by kernel_rfl
theorem oneRow4 : ((List.range 199).filter fun t => Tryz.prog.rowNamed t [101, 114, 114, 111, 114]) = [35] := by kernel_rfl
theorem size4 : Tryz.prog.types.size = 199 := by kernel_rfl
theorem glob_of_laid {W : World} (h : laidMetH Tryz.prog [("errors.errorType", Rows.laid_errors_errorType)] W) : Glob W := by
 have h' : laidMet Tryz.prog [] W /\ handlesMet Tryz.prog [("errors.errorType", Rows.laid_errors_errorType)] W := h
 obtain ⟨name, u, ty, e1, e2, e3, e4, e5⟩ := h'.2 _ (List.mem_singleton.2 rfl)
 have en : name = [101, 114, 114, 111, 114] := (Option.some.inj e1).symm
 subst en
 obtain rfl := Option.some.inj (rt4.symm.trans e2)
 have hm : ty ∈ (List.range 199).filter fun t => Tryz.prog.rowNamed t [101, 114, 114, 111, 114] := List.mem_filter.2 ⟨List.mem_range.2 (by rw [<- size4]; exact e3), e4⟩
 rw [oneRow4] at hm
 obtain rfl := List.mem_singleton.1 hm
 have hh : typeHandle Tryz.prog 35 = .pointer (some ⟨3, 35, none⟩) := by kernel_rfl
 rw [hh] at e5
 unfold Glob
 simpa using World.var?_cell et4 e5 0
noncomputable def laidWorld (os : Os) : World :=
 let w0 := World.holding Tryz.prog os ⟨#[], #[], []⟩
 { w0 with heap := w0.heap.modify 0 fun
    | .cells _ t frozen => .cells #[.iface 138 (.agg #[.pointer (some ⟨3, 35, none⟩)])] t frozen
    | o => o }
theorem laidWorld_met (os : Os) (args : Array Value) : laidMetH Tryz.prog [("errors.errorType", Rows.laid_errors_errorType)] ((laidWorld os).forCall (fun _ _ => 0) ⟨#[], args, []⟩).memory :=
 laidMetH_of_parts (laidMet_nil _ _) (by kernel_rfl)
end Go.Proofs.YtdpgpchcgmmklaaGreatDoor
