/-
  A region that draws its order, told by what is known of each operation's value: whatever comes up, each value is as it must be, and the world only grows; a store, if there is one, comes last of all.
-/
import Derived.Test.YtmpikkhfeogdcaaUp
namespace Go.Proofs.Ytmpikkhfeogdcaa
open Go Go.RowKit
set_option maxRecDepth 100000
set_option linter.unusedSimpArgs false

section
variable {P : Program} {ops : Array Oper} {Q : Exit → Act → World → Prop} {md : Region.Mode}

/-- What an operation's run leaves: some value of which R is known, in a world that has grown; or a call that leaves that. -/
def LeavesR (P : Program) (R : Value → World → Prop) (w : World) : Result Next → Prop
  | .ok (.value u) w' => R u w' ∧ Up w w'
  | .ok (.enter f args) w' => Up w w' ∧ Calls P f args w' fun e w'' => Up w' w'' ∧ ∃ v, e = .returned v ∧ R v w''
  | _ => False
theorem leavesR_value {R : Value → World → Prop} {w : World} {r : Result Next} {u : Value} (h : r = .ok (.value u) w) (hR : R u w) : LeavesR P R w r := by subst h; exact ⟨hR, Up.refl _⟩
theorem leavesR_call {R : Value → World → Prop} {w : World} {r : Result Next} {f : FuncId} {args : Array Value} (h : r = .ok (.enter f args) w) (hc : Calls P f args w fun e w'' => Up w w'' ∧ ∃ v, e = .returned v ∧ R v w'') : LeavesR P R w r := by subst h; exact ⟨Up.refl _, hc⟩

/-- All that is asked of the region's text: operation st is the store (or there is none: st is the number of operations); every other one writes a slot of its own that is there, none is guarded, each waits for earlier ones alone, the store for all. -/
def relB (md : Region.Mode) (ops : Array Oper) (n st : Nat) : Bool :=
  ((List.range ops.size).all fun i => ((ops[i]?).map fun o => o.guard.isNone && (o.after.all fun e => !Region.binds md e || decide (e.on < i)) &&
    (if i = st then o.dst.isNone else ((o.dst.map fun d => decide (d < n)).getD false) && (List.range ops.size).all fun j => j == i || ((ops[j]?).map fun o' => o'.dst != o.dst).getD true)).getD false) &&
  (decide (ops.size ≤ st) || (List.range ops.size).all fun j => j == st || waitsU md ops j ops.size st)

/-- An operation's own: the values that it may look at. -/
structure RelEv (ops : Array Oper) (md : Region.Mode) (R : Nat → Value → World → Prop) (a0 : Act) (o : Oper) (ev : Operand → Value) (w : World) : Prop where
  const : ∀ c, ev (.const c) = c
  func : ∀ f, ev (.func f) = .func (.func f) #[] #[]
  global : ∀ g, ev (.global g) = .pointer (some ⟨g, 0, none⟩)
  other : ∀ s, (∀ o' ∈ ops, o'.dst ≠ some s) → ev (.tmp s) = a0.eval (.tmp s)
  dep : ∀ j o' d, ops[j]? = some o' → (∃ e ∈ o.after, Region.binds md e = true ∧ e.on = j) → o'.dst = some d → R j (ev (.tmp d)) w

structure RelInv (ops : Array Oper) (R : Nat → Value → World → Prop) (a0 : Act) (listed : Array Bool) (a : Act) (w : World) : Prop where
  defers : a.defers = a0.defers
  size : a.tmps.size = a0.tmps.size
  lsize : listed.size = ops.size
  other : ∀ s, (∀ o' ∈ ops, o'.dst ≠ some s) → a.tmps[s]? = a0.tmps[s]?
  done : ∀ i o d, ops[i]? = some o → listed.getD i false = true → o.dst = some d → R i (a.tmps.getD d undef) w

theorem relB_op {n st : Nat} (h : relB md ops n st = true) {i : Nat} {o : Oper} (hi : ops[i]? = some o) :
    o.guard = none ∧ (∀ e ∈ o.after, Region.binds md e = true → e.on < i) ∧ (i = st → o.dst = none) ∧
    (i ≠ st → ∃ d, o.dst = some d ∧ d < n ∧ ∀ j o', ops[j]? = some o' → j ≠ i → o'.dst ≠ some d) := by
  unfold relB at h
  rw [Bool.and_eq_true] at h
  have hlt : i < ops.size := (Array.getElem?_eq_some_iff.1 hi).1
  have h1 := List.all_eq_true.1 h.1 i (List.mem_range.2 hlt)
  rw [hi] at h1
  simp only [Option.map_some, Option.getD_some, Bool.and_eq_true] at h1
  obtain ⟨⟨h2, h3⟩, h4⟩ := h1
  refine ⟨Option.isNone_iff_eq_none.1 h2, fun e he hb => ?_, fun hs => ?_, fun hs => ?_⟩
  · have := Array.all_eq_true_iff_forall_mem.1 h3 e he
    simpa [hb] using this
  · rw [if_pos hs] at h4
    exact Option.isNone_iff_eq_none.1 h4
  · rw [if_neg hs, Bool.and_eq_true] at h4
    cases hd : o.dst with
    | none => rw [hd] at h4; simp at h4
    | some d =>
      rw [hd] at h4
      refine ⟨d, rfl, by simpa using h4.1, fun j o' hj hji => ?_⟩
      have h5 := List.all_eq_true.1 h4.2 j (List.mem_range.2 (Array.getElem?_eq_some_iff.1 hj).1)
      rw [hj] at h5
      simp only [Option.map_some, Option.getD_some, Bool.or_eq_true, beq_iff_eq, bne_iff_ne] at h5
      exact h5.resolve_left hji
theorem relB_store {n st : Nat} (h : relB md ops n st = true) {j : Nat} (hj : j < ops.size) (hs : st < ops.size) (hne : j ≠ st) : waitsU md ops j ops.size st = true := by
  unfold relB at h
  rw [Bool.and_eq_true, Bool.or_eq_true] at h
  rcases h.2 with h2 | h2
  · have := of_decide_eq_true h2; omega
  · have := List.all_eq_true.1 h2 j (List.mem_range.2 hj)
    simpa [hne] using this

/-- How many are left. -/
def leftU (n : Nat) (listed : Array Bool) : Nat := ((List.range n).filter fun j => !listed.getD j true).length
theorem leftU_set {n i : Nat} {listed : Array Bool} (hi : i < n) (hl : listed.getD i true = false) : leftU n (listed.setIfInBounds i true) + 1 ≤ leftU n listed := by
  unfold leftU
  rw [← List.countP_eq_length_filter, ← List.countP_eq_length_filter]
  have hsz : i < listed.size := by
    rcases Nat.lt_or_ge i listed.size with h | h
    · exact h
    · simp [Array.getElem?_eq_none h] at hl
  have key : ∀ m, i < m → (List.range m).countP (fun j => !(listed.setIfInBounds i true).getD j true) + 1 ≤ (List.range m).countP (fun j => !listed.getD j true) := by
    intro m
    induction m with
    | zero => intro h; omega
    | succ m ih =>
      intro h
      rw [List.range_succ, List.countP_append, List.countP_append]
      simp only [List.countP_cons, List.countP_nil, Nat.zero_add]
      by_cases him : i = m
      · subst him
        have e0 : (List.range i).countP (fun j => !(listed.setIfInBounds i true).getD j true) = (List.range i).countP (fun j => !listed.getD j true) := by
          apply List.countP_congr
          intro j hj
          have hji : i ≠ j := by have := List.mem_range.1 hj; omega
          rw [getD_set_ne true hji]
        rw [e0, hl]
        have e1 : (listed.setIfInBounds i true).getD i true = true := by simp [hsz]
        rw [e1]
        simp
      · have := ih (by omega)
        rw [getD_set_ne true him]
        omega
  exact key n hi
theorem leftU_zero {n : Nat} {listed : Array Bool} (h : leftU n listed = 0) {j : Nat} (hj : j < n) : listed.getD j true = true := by
  unfold leftU at h
  have := List.filter_eq_nil_iff.1 (List.length_eq_zero_iff.1 h) j (List.mem_range.2 hj)
  simpa using this
theorem exists_ready {n st : Nat} (hB : relB md ops n st = true) {listed : Array Bool} (hs : listed.size = ops.size) : ∀ k, k < ops.size → listed.getD k true = false → ∃ i, i ∈ Region.ready md ops listed := by
  intro k
  induction k using Nat.strongRecOn with
  | _ k ih =>
    intro hk hl
    obtain ⟨o, ho⟩ : ∃ o, ops[k]? = some o := ⟨ops[k], Array.getElem?_eq_getElem hk⟩
    obtain ⟨_, h2, _⟩ := relB_op hB ho
    by_cases hall : ∀ e ∈ o.after, Region.binds md e = true → listed.getD e.on false = true
    · exact ⟨k, mem_ready.2 ⟨hl, o, ho, hall⟩⟩
    · obtain ⟨e, hne⟩ := Classical.not_forall.1 hall
      obtain ⟨he, hne⟩ := Classical.not_imp.1 hne
      obtain ⟨hb, hne⟩ := Classical.not_imp.1 hne
      have hlt := h2 e he hb
      refine ih e.on hlt (by omega) ?_
      have hsz : e.on < listed.size := by omega
      simp [hsz] at hne ⊢
      exact hne

theorem wpAny_rel {n st : Nat} {R : Nat → Value → World → Prop} {S : World → Prop} {a0 : Act} {w0 : World} (hn : a0.tmps.size = n) (hB : relB md ops n st = true)
    (hR : ∀ i v w w', R i v w → Up w w' → R i v w') (hS : ∀ w w', S w → Up w w' → S w')
    (hop : ∀ i o, ops[i]? = some o → i ≠ st → ∀ ev w, S w → RelEv ops md R a0 o ev w → LeavesR P (R i) w ((execOp ev o).run P w))
    (hfin : ∀ a w, a.tmps.size = a0.tmps.size → a.defers = a0.defers → (∀ s, (∀ o' ∈ ops, o'.dst ≠ some s) → a.tmps[s]? = a0.tmps[s]?) → (∀ i o d, ops[i]? = some o → i ≠ st → o.dst = some d → R i (a.tmps.getD d undef) w) → S w → Up w0 w →
      (ops.size ≤ st → Q .normal a w) ∧ (∀ o, ops[st]? = some o → Oper.wp P o a w (Q .normal) Q)) :
    ∀ (fuel : Nat) (listed : Array Bool) (a : Act) (w : World), leftU ops.size listed ≤ fuel → closedU md ops listed → (st < ops.size → listed.getD st true = false) → RelInv ops R a0 listed a w → S w → Up w0 w → wpAny P md ops Q fuel listed a w := by
  intro fuel
  induction fuel with
  | zero =>
    intro listed a w hf hcl hst hI hSw hu
    have hz := fun {j} => leftU_zero (listed := listed) (n := ops.size) (by omega) (j := j)
    have hst' : ops.size ≤ st := by
      rcases Nat.lt_or_ge st ops.size with h | h
      · have := hst h; rw [hz h] at this; cases this
      · exact h
    refine ⟨?_, ?_⟩
    · cases hrd : Region.ready md ops listed with
      | nil => rfl
      | cons i l =>
        obtain ⟨h1, o, ho, _⟩ := mem_ready.1 (show i ∈ Region.ready md ops listed by rw [hrd]; exact List.mem_cons_self)
        rw [hz (Array.getElem?_eq_some_iff.1 ho).1] at h1
        cases h1
    · refine (hfin a w hI.size hI.defers hI.other (fun i o d ho hi hd => hI.done i o d ho ?_ hd) hSw hu).1 hst'
      have h1 := hz (Array.getElem?_eq_some_iff.1 ho).1
      have h2 : i < listed.size := by rw [hI.lsize]; exact (Array.getElem?_eq_some_iff.1 ho).1
      simp [h2] at h1 ⊢
      exact h1
  | succ fuel ih =>
    intro listed a w hf hcl hst hI hSw hu
    have hcase : Region.ready md ops listed = [] → ∀ j, j < ops.size → listed.getD j true = true := by
      intro hr j hj
      cases hl : listed.getD j true with
      | true => rfl
      | false =>
        obtain ⟨i, hi⟩ := exists_ready hB hI.lsize j hj hl
        rw [hr] at hi
        cases hi
    have hfull : ∀ (hz : ∀ j, j < ops.size → j ≠ st → listed.getD j true = true) (i : Nat) (o : Oper) (d : Tmp), ops[i]? = some o → i ≠ st → o.dst = some d → R i (a.tmps.getD d undef) w := by
      intro hz i o d ho hi hd
      refine hI.done i o d ho ?_ hd
      have h1 := hz i (Array.getElem?_eq_some_iff.1 ho).1 hi
      have h2 : i < listed.size := by rw [hI.lsize]; exact (Array.getElem?_eq_some_iff.1 ho).1
      simp [h2] at h1 ⊢
      exact h1
    refine ⟨fun hr => ?_, fun i hi => ?_⟩
    · have hz := hcase hr
      have hst' : ops.size ≤ st := by
        rcases Nat.lt_or_ge st ops.size with h | h
        · have := hst h; rw [hz st h] at this; cases this
        · exact h
      exact (hfin a w hI.size hI.defers hI.other (hfull fun j hj _ => hz j hj) hSw hu).1 hst'
    · obtain ⟨hun, o, ho, hall⟩ := mem_ready.1 hi
      have hlt : i < ops.size := (Array.getElem?_eq_some_iff.1 ho).1
      obtain ⟨hg, _, hdn, hds⟩ := relB_op hB ho
      have hw : Region.wanted o (yielded ops a.tmps) = true := by simp [Region.wanted, hg]
      unfold wpOp
      simp only [ho, hw, if_true]
      refine .inl ?_
      by_cases his : i = st
      · subst his
        have hz : ∀ j, j < ops.size → j ≠ i → listed.getD j true = true := by
          intro j hj hne
          have h1 := waitsU_spec hcl ops.size i o ho hall (relB_store hB hj hlt hne)
          have h2 : j < listed.size := by rw [hI.lsize]; exact hj
          simp [h2] at h1 ⊢
          exact h1
        have h1 := (hfin a w hI.size hI.defers hI.other (hfull hz) hSw hu).2 o ho
        have hnil : Region.ready md ops (listed.setIfInBounds i true) = [] := by
          cases hrd : Region.ready md ops (listed.setIfInBounds i true) with
          | nil => rfl
          | cons k l =>
            obtain ⟨h1, ok, hok, _⟩ := mem_ready.1 (show k ∈ Region.ready md ops (listed.setIfInBounds i true) by rw [hrd]; exact List.mem_cons_self)
            have hk : k < ops.size := (Array.getElem?_eq_some_iff.1 hok).1
            by_cases hki : k = i
            · subst hki
              have h2 : k < listed.size := by rw [hI.lsize]; exact hk
              simp [h2] at h1
            · rw [getD_set_ne true (Ne.symm hki), hz k hk hki] at h1
              cases h1
        refine Oper.wp_mono (fun a' w' hq => ?_) h1
        cases fuel with
        | zero => exact ⟨hnil, hq⟩
        | succ f => exact ⟨fun _ => hq, by rw [hnil]; intro j hj; cases hj⟩
      · obtain ⟨d, hd, hdl, hdd⟩ := hds his
        have hev : RelEv ops md R a0 o a.eval w := by
          refine ⟨fun _ => rfl, fun _ => rfl, fun _ => rfl, fun s hs => ?_, fun j o' d' hj he hd' => ?_⟩
          · show a.tmps.getD s undef = a0.tmps.getD s undef
            rw [Array.getD_eq_getD_getElem?, Array.getD_eq_getD_getElem?, hI.other s hs]
          · obtain ⟨e, he, hb, rfl⟩ := he
            exact hI.done e.on o' d' hj (hall e he hb) hd'
        have h1 := hop i o ho his a.eval w hSw hev
        have hnext : ∀ v w', R i v w' → Up w w' → wpAny P md ops Q fuel (listed.setIfInBounds i true) (a.put o.dst v) w' := by
          intro v w' hv hu'
          refine ih _ _ _ ?_ (closedU_set hcl hi) (fun h => ?_) ?_ (hS _ _ hSw hu') (hu.trans hu')
          · have := leftU_set (n := ops.size) hlt hun; omega
          · rw [getD_set_ne true his]; exact hst h
          · rw [hd]
            refine ⟨hI.defers, by simp [Act.put, hI.size], by simp [hI.lsize], fun s hs => ?_, fun j o' d' hj hl hd' => ?_⟩
            · have hne : d ≠ s := by
                rintro rfl
                obtain ⟨hx, hy⟩ := Array.getElem?_eq_some_iff.1 ho
                exact hs o (by rw [← hy]; exact Array.getElem_mem hx) hd
              rw [← hI.other s hs]
              simp [Act.put, hne]
            · by_cases hji : j = i
              · subst hji
                rw [ho] at hj
                obtain rfl := Option.some.inj hj
                rw [hd] at hd'
                obtain rfl := Option.some.inj hd'
                have hds : d < a.tmps.size := by rw [hI.size, hn]; exact hdl
                have e : ((a.put (some d) v).tmps.getD d undef) = v := by simp [Act.put, hds]
                rw [e]
                exact hv
              · have hne : d ≠ d' := fun e => hdd j o' hj hji (by rw [hd', e])
                rw [getD_set_ne false (Ne.symm hji)] at hl
                have e : ((a.put (some d) v).tmps.getD d' undef) = a.tmps.getD d' undef := by
                  rw [Array.getD_eq_getD_getElem?, Array.getD_eq_getD_getElem?]
                  simp [Act.put, hne]
                rw [e]
                exact hR j _ _ _ (hI.done j o' d' hj hl hd') hu'
        unfold Oper.wp
        generalize (execOp a.eval o).run P w = r at *
        cases r with
        | halt x w' => exact h1.elim
        | ok nx w' =>
          cases nx with
          | value u => exact hnext u w' h1.1 h1.2
          | enter f args =>
            obtain ⟨hu', hc⟩ := h1
            refine Calls.mono hc fun e w'' he => ?_
            obtain ⟨hu2, v, rfl, hv⟩ := he
            exact hnext v w'' hv (hu'.trans hu2)
          | _ => exact h1.elim

def putL (a : Act) : List (Tmp × Value) → Act
  | [] => a
  | p :: l => putL (a.put (some p.1) p.2) l
theorem putL_size (l : List (Tmp × Value)) : ∀ a : Act, (putL a l).tmps.size = a.tmps.size := by
  induction l with
  | nil => intro a; rfl
  | cons p l ih => intro a; show (putL _ l).tmps.size = _; rw [ih]; simp [Act.put]
theorem putL_defers (l : List (Tmp × Value)) : ∀ a : Act, (putL a l).defers = a.defers := by
  induction l with
  | nil => intro a; rfl
  | cons p l ih => intro a; show (putL _ l).defers = _; rw [ih]; rfl
theorem putL_get (g : Nat → Value) (ds : List Tmp) : ∀ (a : Act) (s : Tmp), s < a.tmps.size → (putL a (ds.map fun d => (d, g d))).tmps[s]? = if s ∈ ds then some (g s) else a.tmps[s]? := by
  induction ds with
  | nil => intro a s _; simp [putL]
  | cons d ds ih =>
    intro a s hs
    show (putL (a.put (some d) (g d)) (ds.map fun d => (d, g d))).tmps[s]? = _
    rw [ih _ _ (by simpa [Act.put] using hs)]
    by_cases h1 : s ∈ ds
    · simp [h1]
    · by_cases h2 : s = d
      · subst h2; simp [Act.put, hs, h1]
      · simp [h1, h2, Act.put, Ne.symm h2]
theorem putL_eq {a a0 : Act} {ds : List Tmp} (hs : a.tmps.size = a0.tmps.size) (hd : a.defers = a0.defers) (ho : ∀ s, s ∉ ds → a.tmps[s]? = a0.tmps[s]?) :
    a = putL a0 (ds.map fun d => (d, a.tmps.getD d undef)) := by
  have h1 : a.tmps = (putL a0 (ds.map fun d => (d, a.tmps.getD d undef))).tmps := by
    apply Array.ext_getElem?
    intro s
    rcases Nat.lt_or_ge s a0.tmps.size with hlt | hge
    · rw [putL_get (fun d => a.tmps.getD d undef) ds a0 s hlt]
      by_cases h : s ∈ ds
      · simp [h, hs, hlt]
      · simp [h, ho s h]
    · rw [Array.getElem?_eq_none (by omega), Array.getElem?_eq_none (by rw [putL_size]; exact hge)]
  have h2 := putL_defers (ds.map fun d => (d, a.tmps.getD d undef)) a0
  cases a with
  | mk t f =>
    generalize hp : putL a0 (ds.map fun d => (d, (Act.mk t f).tmps.getD d undef)) = b at *
    cases b
    simp only at h1 hd h2
    rw [h1, hd, h2]

/-- A region by what is known of its values; ds: the slots that it writes. -/
theorem wp_region_rel {id : Nat} {a0 : Act} {w0 : World} {n : Nat} (st : Nat) (ds : List Tmp) (R : Nat → Value → World → Prop) (S : World → Prop) (hm : P.follows .mixedOrders = true) (hn : a0.tmps.size = n) (hB : relB .any ops n st = true)
    (hds : ∀ o ∈ ops, ∀ d, o.dst = some d → d ∈ ds)
    (hR : ∀ i v w w', R i v w → Up w w' → R i v w') (hS : ∀ w w', S w → Up w w' → S w') (h0 : S w0)
    (hop : ∀ i o, ops[i]? = some o → i ≠ st → ∀ ev w, S w → RelEv ops .any R a0 o ev w → LeavesR P (R i) w ((execOp ev o).run P w))
    (hfin : ∀ (g : Tmp → Value) w, (∀ i o d, ops[i]? = some o → i ≠ st → o.dst = some d → R i (g d) w) → S w → Up w0 w →
      (ops.size ≤ st → Q .normal (putL a0 (ds.map fun d => (d, g d))) w) ∧ (∀ o, ops[st]? = some o → Oper.wp P o (putL a0 (ds.map fun d => (d, g d))) w (Q .normal) Q)) :
    (Code.region id ops true).wp P Q a0 w0 := by
  refine wp_region_any hm (wpAny_rel hn hB hR hS hop (fun a w hs hd ho hr hSw hu => ?_) _ _ _ _ ?_ ?_ ?_ ?_ (hS _ _ h0 (Up.drew w0)) (Up.drew w0))
  · rw [putL_eq (ds := ds) hs hd (fun s hs' => ho s fun o' hm he => hs' (hds o' hm s he))]
    exact hfin (fun d => a.tmps.getD d undef) w hr hSw hu
  · unfold leftU; exact Nat.le_trans (List.length_filter_le _ _) (by simp)
  · intro j oj hj hl
    have : j < ops.size := (Array.getElem?_eq_some_iff.1 hj).1
    simp [this] at hl
  · intro h; simp [h]
  · refine ⟨rfl, rfl, by simp, fun _ _ => rfl, fun i o d ho hl _ => ?_⟩
    have : i < ops.size := (Array.getElem?_eq_some_iff.1 ho).1
    simp [this] at hl
/-- What may be known of a value: growing keeps it. -/
structure SP where
  p : Value → World → Prop
  up : ∀ v w w', p v w → Up w w' → p v w'
def SP.is (c : Value) : SP := ⟨fun v _ => v = c, fun _ _ _ h _ => h⟩
def SP.any : SP := ⟨fun _ _ => True, fun _ _ _ h _ => h⟩
def SP.of (p : Value → World → Prop) (up : ∀ v w w', p v w → Up w w' → p v w') : SP := ⟨p, up⟩
def nthR (L : List SP) (i : Nat) (v : Value) (w : World) : Prop := (L.getD i SP.any).p v w
def freeB (ops : Array Oper) (s : Tmp) : Bool := ops.all fun o => o.dst != some s
def depB (md : Region.Mode) (ops : Array Oper) (i j : Nat) (d : Tmp) : Bool :=
  match ops[i]?, ops[j]? with
  | some o, some o' => (o.after.any fun e => Region.binds md e && e.on == j) && o'.dst == some d
  | _, _ => false
def dstB (ops : Array Oper) (j : Nat) (d : Tmp) : Bool := match ops[j]? with | some o' => o'.dst == some d | none => false
def dsB (ops : Array Oper) (ds : List Tmp) : Bool := ops.all fun o => match o.dst with | some d => ds.contains d | none => true
/-- What an operation may look at, as a walk wants it. -/
structure EvR (ops : Array Oper) (L : List SP) (a0 : Act) (i : Nat) (ev : Operand → Value) (w : World) : Prop where
  const : ∀ c, ev (.const c) = c
  func : ∀ f, ev (.func f) = .func (.func f) #[] #[]
  global : ∀ g, ev (.global g) = .pointer (some ⟨g, 0, none⟩)
  other : ∀ s, freeB ops s = true → ev (.tmp s) = a0.eval (.tmp s)
  dep : ∀ j d, depB .any ops i j d = true → nthR L j (ev (.tmp d)) w
def opAt (ops : Array Oper) (i : Nat) : Oper := ops.getD i default
theorem wp_region_sp {id : Nat} {a0 : Act} {w0 : World} {n : Nat} (st : Nat) (ds : List Tmp) (L : List SP) (S : World → Prop) (hm : P.follows .mixedOrders = true) (hn : a0.tmps.size = n) (hB : relB .any ops n st = true)
    (hds : dsB ops ds = true) (hS : ∀ w w', S w → Up w w' → S w') (h0 : S w0)
    (hop : ∀ ev w, S w → ∀ i o, i ≠ st → ops[i]? = some o → EvR ops L a0 i ev w → LeavesR P (nthR L i) w ((execOp ev o).run P w))
    (hfin : ∀ (g : Tmp → Value) w, (∀ i d, i ≠ st → dstB ops i d = true → nthR L i (g d) w) → S w → Up w0 w →
      (ops.size ≤ st → Q .normal (putL a0 (ds.map fun d => (d, g d))) w) ∧ (∀ o, ops[st]? = some o → Oper.wp P o (putL a0 (ds.map fun d => (d, g d))) w (Q .normal) Q)) :
    (Code.region id ops true).wp P Q a0 w0 := by
  refine wp_region_rel (n := n) st ds (nthR L) S hm hn hB (fun o ho d hd => ?_) (fun i v w w' h hu => (L.getD i SP.any).up v w w' h hu) hS h0 (fun i o hi hne ev w hSw hev => ?_) (fun g w hr => hfin g w fun i d hne hd => ?_)
  · have := Array.all_eq_true_iff_forall_mem.1 hds o ho
    simpa [hd] using this
  · refine hop ev w hSw i o hne hi ⟨hev.const, hev.func, hev.global, fun s hs => hev.other s fun o' ho' => ?_, fun j d hj => ?_⟩
    · have := Array.all_eq_true_iff_forall_mem.1 hs o' ho'
      simpa using this
    · unfold depB at hj
      rw [hi] at hj
      cases hoj : ops[j]? with
      | none => rw [hoj] at hj; cases hj
      | some o' =>
        rw [hoj] at hj
        simp only [Bool.and_eq_true, Array.any_eq_true', beq_iff_eq] at hj
        obtain ⟨⟨e, he, hb, hon⟩, hd⟩ := hj
        exact hev.dep j o' d hoj ⟨e, he, hb, hon⟩ hd
  · unfold dstB at hd
    cases ho : ops[i]? with
    | none => rw [ho] at hd; cases hd
    | some o' =>
      rw [ho] at hd
      exact hr i o' d ho hne (by simpa using hd)
end
end Go.Proofs.Ytmpikkhfeogdcaa
