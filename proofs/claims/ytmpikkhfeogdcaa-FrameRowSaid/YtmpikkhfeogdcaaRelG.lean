/-
  A region that draws its order, told by what is known of each value, where operations may be guarded: of a guard's value it is known which it is.
-/
import Derived.Test.YtmpikkhfeogdcaaRel
namespace Go.Proofs.Ytmpikkhfeogdcaa
open Go Go.RowKit
set_option maxRecDepth 100000
set_option linter.unusedSimpArgs false

section
variable {P : Program} {ops : Array Oper} {Q : Exit → Act → World → Prop} {md : Region.Mode}

/-- What may be known of a value; which truth it is, if that is known; whether it may be left out. -/
structure SG where
  p : Value → World → Prop
  up : ∀ v w w', p v w → Up w w' → p v w'
  b : Option Bool
  hb : ∀ c, b = some c → ∀ v w, p v w → v = .bool c
  u : Bool
  hu : u = true → ∀ w, p undef w
def SG.is (c : Value) : SG := ⟨fun v _ => v = c, fun _ _ _ h _ => h, none, (by simp), false, (by simp)⟩
def SG.tt (c : Bool) : SG := ⟨fun v _ => v = .bool c, fun _ _ _ h _ => h, some c, (fun _ h _ _ e => (by injection h with h; subst h; exact e)), false, (by simp)⟩
def SG.no : SG := ⟨fun v _ => v = undef, fun _ _ _ h _ => h, none, (by simp), true, (by simp)⟩
def SG.any : SG := ⟨fun _ _ => True, fun _ _ _ h _ => h, none, (by simp), true, (by simp)⟩
def SG.of (p : Value → World → Prop) (up : ∀ v w w', p v w → Up w w' → p v w') : SG := ⟨p, up, none, (by simp), false, (by simp)⟩
def nthG (L : List SG) (i : Nat) (v : Value) (w : World) : Prop := (L.getD i SG.any).p v w
/-- Is an operation done? -/
def wantG (ops : Array Oper) (L : List SG) (i : Nat) : Bool := match (ops[i]?).bind (·.guard) with | none => true | some (j, b) => (L.getD j SG.any).b == some b
def gdB (md : Region.Mode) (ops : Array Oper) (L : List SG) (st i : Nat) : Bool :=
  match ops[i]? with
  | none => true
  | some o => match o.guard with
    | none => true
    | some (j, b) => j != st && (o.after.any fun e => Region.binds md e && e.on == j) && (((ops[j]?).map fun o' => o'.dst.isSome).getD false) && ((L.getD j SG.any).b == some b || ((L.getD j SG.any).b == some (!b) && (L.getD i SG.any).u))
/-- All that is asked of the region's text: as without guards; a guard waits for its value. -/
def relG (md : Region.Mode) (ops : Array Oper) (L : List SG) (n st : Nat) : Bool :=
  ((List.range ops.size).all fun i => ((ops[i]?).map fun o => gdB md ops L st i && (o.after.all fun e => !Region.binds md e || decide (e.on < i)) &&
    (if i = st then o.dst.isNone && o.guard.isNone else ((o.dst.map fun d => decide (d < n)).getD false) && (List.range ops.size).all fun j => j == i || ((ops[j]?).map fun o' => o'.dst != o.dst).getD true)).getD false) &&
  (decide (ops.size ≤ st) || (List.range ops.size).all fun j => j == st || waitsU md ops j ops.size st)
theorem relG_op {L : List SG} {n st : Nat} (h : relG md ops L n st = true) {i : Nat} {o : Oper} (hi : ops[i]? = some o) :
    gdB md ops L st i = true ∧ (∀ e ∈ o.after, Region.binds md e = true → e.on < i) ∧ (i = st → o.dst = none ∧ o.guard = none) ∧
    (i ≠ st → ∃ d, o.dst = some d ∧ d < n ∧ ∀ j o', ops[j]? = some o' → j ≠ i → o'.dst ≠ some d) := by
  unfold relG at h
  rw [Bool.and_eq_true] at h
  have hlt : i < ops.size := (Array.getElem?_eq_some_iff.1 hi).1
  have h1 := List.all_eq_true.1 h.1 i (List.mem_range.2 hlt)
  rw [hi] at h1
  simp only [Option.map_some, Option.getD_some, Bool.and_eq_true] at h1
  obtain ⟨⟨h2, h3⟩, h4⟩ := h1
  refine ⟨h2, fun e he hb => ?_, fun hs => ?_, fun hs => ?_⟩
  · have := Array.all_eq_true_iff_forall_mem.1 h3 e he
    simpa [hb] using this
  · rw [if_pos hs, Bool.and_eq_true] at h4
    exact ⟨Option.isNone_iff_eq_none.1 h4.1, Option.isNone_iff_eq_none.1 h4.2⟩
  · rw [if_neg hs, Bool.and_eq_true] at h4
    cases hd : o.dst with
    | none => rw [hd] at h4; simp at h4
    | some d =>
      rw [hd] at h4
      refine ⟨d, rfl, by simpa using h4.1, fun j o' hj hji => ?_⟩
      have h5 := List.all_eq_true.1 h4.2 j (List.mem_range.2 (Array.getElem?_eq_some_iff.1 hj).1)
      rw [hj] at h5
      simp only [Option.map_some, Option.getD_some, Bool.or_eq_true, beq_iff_eq, bne_iff_ne] at h5
      exact h5.resolve_left hji
theorem relG_store {L : List SG} {n st : Nat} (h : relG md ops L n st = true) {j : Nat} (hj : j < ops.size) (hs : st < ops.size) (hne : j ≠ st) : waitsU md ops j ops.size st = true := by
  unfold relG at h
  rw [Bool.and_eq_true, Bool.or_eq_true] at h
  rcases h.2 with h2 | h2
  · have := of_decide_eq_true h2; omega
  · have := List.all_eq_true.1 h2 j (List.mem_range.2 hj)
    simpa [hne] using this
/-- Whether an operation is done is what is known of its guard; if it isn't, it may be left out. -/
theorem relG_want {L : List SG} {n st : Nat} (h : relG md ops L n st = true) {i : Nat} {o : Oper} (hi : ops[i]? = some o) {a a0 : Act} {w : World} (hn : a.tmps.size = n) {listed : Array Bool}
    (hall : ∀ e ∈ o.after, Region.binds md e = true → listed.getD e.on false = true) (hI : RelInv ops (nthG L) a0 listed a w) :
    Region.wanted o (yielded ops a.tmps) = wantG ops L i ∧ (wantG ops L i = false → ∀ w, nthG L i undef w) := by
  obtain ⟨h1, _, _, _⟩ := relG_op h hi
  unfold gdB at h1
  unfold wantG
  rw [hi] at h1 ⊢
  dsimp only [Option.bind_some] at h1 ⊢
  unfold Region.wanted
  cases hg : o.guard with
  | none => simp [hg]
  | some jb =>
    obtain ⟨j, b⟩ := jb
    rw [hg] at h1
    simp only [Bool.and_eq_true, bne_iff_ne, Array.any_eq_true', beq_iff_eq, Bool.or_eq_true] at h1
    obtain ⟨⟨⟨hjs, e, he, hb, hon⟩, hd⟩, hk⟩ := h1
    cases hoj : ops[j]? with
    | none => rw [hoj] at hd; cases hd
    | some o' =>
      rw [hoj] at hd
      simp only [Option.map_some, Option.getD_some] at hd
      obtain ⟨d, hd⟩ := Option.isSome_iff_exists.1 hd
      obtain ⟨d', hd', hdn, _⟩ := (relG_op h hoj).2.2.2 hjs
      rw [hd] at hd'
      obtain rfl := Option.some.inj hd'
      have hR := hI.done j o' d hoj (by have := hall e he hb; rw [hon] at this; exact this) hd
      have hy : ∀ c, (L.getD j SG.any).b = some c → yielded ops a.tmps j = some c := fun c hc => by
        have hv := (L.getD j SG.any).hb c hc _ _ hR
        unfold yielded
        rw [hoj]
        have hds : d < a.tmps.size := by rw [hn]; exact hdn
        simp only [Option.bind_some, hd]
        rw [Array.getElem?_eq_getElem hds]
        have e2 : a.tmps.getD d undef = a.tmps[d] := by simp [hds]
        rw [e2] at hv
        rw [hv]
      simp only [Option.bind_some, hg]
      rcases hk with hk | ⟨hk, hu⟩
      · rw [hy b hk, hk]; simp
      · rw [hy _ hk, hk]
        refine ⟨by cases b <;> rfl, fun _ w => (L.getD i SG.any).hu hu w⟩
theorem exists_readyG {L : List SG} {n st : Nat} (hB : relG md ops L n st = true) {listed : Array Bool} (hs : listed.size = ops.size) : ∀ k, k < ops.size → listed.getD k true = false → ∃ i, i ∈ Region.ready md ops listed := by
  intro k
  induction k using Nat.strongRecOn with
  | _ k ih =>
    intro hk hl
    obtain ⟨o, ho⟩ : ∃ o, ops[k]? = some o := ⟨ops[k], Array.getElem?_eq_getElem hk⟩
    obtain ⟨_, h2, _⟩ := relG_op hB ho
    by_cases hall : ∀ e ∈ o.after, Region.binds md e = true → listed.getD e.on false = true
    · exact ⟨k, mem_ready.2 ⟨hl, o, ho, hall⟩⟩
    · obtain ⟨e, hne⟩ := Classical.not_forall.1 hall
      obtain ⟨he, hne⟩ := Classical.not_imp.1 hne
      obtain ⟨hb, hne⟩ := Classical.not_imp.1 hne
      have hlt := h2 e he hb
      refine ih e.on hlt (by omega) ?_
      have hsz : e.on < listed.size := by omega
      simp [hsz] at hne ⊢
      exact hne

theorem wpAny_relG {L : List SG} {n st : Nat} {S : World → Prop} {a0 : Act} {w0 : World} (hn : a0.tmps.size = n) (hB : relG md ops L n st = true)
    (hS : ∀ w w', S w → Up w w' → S w')
    (hop : ∀ i o, ops[i]? = some o → i ≠ st → wantG ops L i = true → ∀ ev w, S w → RelEv ops md (nthG L) a0 o ev w → LeavesR P (nthG L i) w ((execOp ev o).run P w))
    (hfin : ∀ a w, a.tmps.size = a0.tmps.size → a.defers = a0.defers → (∀ s, (∀ o' ∈ ops, o'.dst ≠ some s) → a.tmps[s]? = a0.tmps[s]?) → (∀ i o d, ops[i]? = some o → i ≠ st → o.dst = some d → nthG L i (a.tmps.getD d undef) w) → S w → Up w0 w →
      (ops.size ≤ st → Q .normal a w) ∧ (∀ o, ops[st]? = some o → Oper.wp P o a w (Q .normal) Q)) :
    ∀ (fuel : Nat) (listed : Array Bool) (a : Act) (w : World), leftU ops.size listed ≤ fuel → closedU md ops listed → (st < ops.size → listed.getD st true = false) → RelInv ops (nthG L) a0 listed a w → S w → Up w0 w → wpAny P md ops Q fuel listed a w := by
  intro fuel
  induction fuel with
  | zero =>
    intro listed a w hf hcl hst hI hSw hu
    have hz := fun {j} => leftU_zero (listed := listed) (n := ops.size) (by omega) (j := j)
    have hst' : ops.size ≤ st := by
      rcases Nat.lt_or_ge st ops.size with h | h
      · have := hst h; rw [hz h] at this; cases this
      · exact h
    refine ⟨?_, ?_⟩
    · cases hrd : Region.ready md ops listed with
      | nil => rfl
      | cons i l =>
        obtain ⟨h1, o, ho, _⟩ := mem_ready.1 (show i ∈ Region.ready md ops listed by rw [hrd]; exact List.mem_cons_self)
        rw [hz (Array.getElem?_eq_some_iff.1 ho).1] at h1
        cases h1
    · refine (hfin a w hI.size hI.defers hI.other (fun i o d ho hi hd => hI.done i o d ho ?_ hd) hSw hu).1 hst'
      have h1 := hz (Array.getElem?_eq_some_iff.1 ho).1
      have h2 : i < listed.size := by rw [hI.lsize]; exact (Array.getElem?_eq_some_iff.1 ho).1
      simp [h2] at h1 ⊢
      exact h1
  | succ fuel ih =>
    intro listed a w hf hcl hst hI hSw hu
    have hcase : Region.ready md ops listed = [] → ∀ j, j < ops.size → listed.getD j true = true := by
      intro hr j hj
      cases hl : listed.getD j true with
      | true => rfl
      | false =>
        obtain ⟨i, hi⟩ := exists_readyG hB hI.lsize j hj hl
        rw [hr] at hi
        cases hi
    have hfull : ∀ (hz : ∀ j, j < ops.size → j ≠ st → listed.getD j true = true) (i : Nat) (o : Oper) (d : Tmp), ops[i]? = some o → i ≠ st → o.dst = some d → nthG L i (a.tmps.getD d undef) w := by
      intro hz i o d ho hi hd
      refine hI.done i o d ho ?_ hd
      have h1 := hz i (Array.getElem?_eq_some_iff.1 ho).1 hi
      have h2 : i < listed.size := by rw [hI.lsize]; exact (Array.getElem?_eq_some_iff.1 ho).1
      simp [h2] at h1 ⊢
      exact h1
    refine ⟨fun hr => ?_, fun i hi => ?_⟩
    · have hz := hcase hr
      have hst' : ops.size ≤ st := by
        rcases Nat.lt_or_ge st ops.size with h | h
        · have := hst h; rw [hz st h] at this; cases this
        · exact h
      exact (hfin a w hI.size hI.defers hI.other (hfull fun j hj _ => hz j hj) hSw hu).1 hst'
    · obtain ⟨hun, o, ho, hall⟩ := mem_ready.1 hi
      have hlt : i < ops.size := (Array.getElem?_eq_some_iff.1 ho).1
      obtain ⟨hg, _, hdn, hds⟩ := relG_op hB ho
      obtain ⟨hwt, hno⟩ := relG_want hB ho (by rw [hI.size, hn]) hall hI
      by_cases his : i = st
      · subst his
        have hw : Region.wanted o (yielded ops a.tmps) = true := by simp [Region.wanted, (hdn rfl).2]
        unfold wpOp
        simp only [ho, hw, if_true]
        refine .inl ?_
        have hz : ∀ j, j < ops.size → j ≠ i → listed.getD j true = true := by
          intro j hj hne
          have h1 := waitsU_spec hcl ops.size i o ho hall (relG_store hB hj hlt hne)
          have h2 : j < listed.size := by rw [hI.lsize]; exact hj
          simp [h2] at h1 ⊢
          exact h1
        have h1 := (hfin a w hI.size hI.defers hI.other (hfull hz) hSw hu).2 o ho
        have hnil : Region.ready md ops (listed.setIfInBounds i true) = [] := by
          cases hrd : Region.ready md ops (listed.setIfInBounds i true) with
          | nil => rfl
          | cons k l =>
            obtain ⟨h1, ok, hok, _⟩ := mem_ready.1 (show k ∈ Region.ready md ops (listed.setIfInBounds i true) by rw [hrd]; exact List.mem_cons_self)
            have hk : k < ops.size := (Array.getElem?_eq_some_iff.1 hok).1
            by_cases hki : k = i
            · subst hki
              have h2 : k < listed.size := by rw [hI.lsize]; exact hk
              simp [h2] at h1
            · rw [getD_set_ne true (Ne.symm hki), hz k hk hki] at h1
              cases h1
        refine Oper.wp_mono (fun a' w' hq => ?_) h1
        cases fuel with
        | zero => exact ⟨hnil, hq⟩
        | succ f => exact ⟨fun _ => hq, by rw [hnil]; intro j hj; cases hj⟩
      · obtain ⟨d, hd, hdl, hdd⟩ := hds his
        have hev : RelEv ops md (nthG L) a0 o a.eval w := by
          refine ⟨fun _ => rfl, fun _ => rfl, fun _ => rfl, fun s hs => ?_, fun j o' d' hj he hd' => ?_⟩
          · show a.tmps.getD s undef = a0.tmps.getD s undef
            rw [Array.getD_eq_getD_getElem?, Array.getD_eq_getD_getElem?, hI.other s hs]
          · obtain ⟨e, he, hb, rfl⟩ := he
            exact hI.done e.on o' d' hj (hall e he hb) hd'
        have hnext : ∀ v w', nthG L i v w' → Up w w' → wpAny P md ops Q fuel (listed.setIfInBounds i true) (a.put o.dst v) w' := by
          intro v w' hv hu'
          refine ih _ _ _ ?_ (closedU_set hcl hi) (fun h => ?_) ?_ (hS _ _ hSw hu') (hu.trans hu')
          · have := leftU_set (n := ops.size) hlt hun; omega
          · rw [getD_set_ne true his]; exact hst h
          · rw [hd]
            refine ⟨hI.defers, by simp [Act.put, hI.size], by simp [hI.lsize], fun s hs => ?_, fun j o' d' hj hl hd' => ?_⟩
            · have hne : d ≠ s := by
                rintro rfl
                obtain ⟨hx, hy⟩ := Array.getElem?_eq_some_iff.1 ho
                exact hs o (by rw [← hy]; exact Array.getElem_mem hx) hd
              rw [← hI.other s hs]
              simp [Act.put, hne]
            · by_cases hji : j = i
              · subst hji
                rw [ho] at hj
                obtain rfl := Option.some.inj hj
                rw [hd] at hd'
                obtain rfl := Option.some.inj hd'
                have hds : d < a.tmps.size := by rw [hI.size, hn]; exact hdl
                have e : ((a.put (some d) v).tmps.getD d undef) = v := by simp [Act.put, hds]
                rw [e]
                exact hv
              · have hne : d ≠ d' := fun e => hdd j o' hj hji (by rw [hd', e])
                rw [getD_set_ne false (Ne.symm hji)] at hl
                have e : ((a.put (some d) v).tmps.getD d' undef) = a.tmps.getD d' undef := by
                  rw [Array.getD_eq_getD_getElem?, Array.getD_eq_getD_getElem?]
                  simp [Act.put, hne]
                rw [e]
                exact (L.getD j SG.any).up _ _ _ (hI.done j o' d' hj hl hd') hu'
        unfold wpOp
        simp only [ho, hwt]
        cases hwg : wantG ops L i with
        | false =>
          simp only [Bool.false_eq_true, if_false]
          exact hnext _ _ (hno hwg w) (Up.refl _)
        | true =>
        simp only [if_true]
        refine .inl ?_
        have h1 := hop i o ho his hwg a.eval w hSw hev
        unfold Oper.wp
        generalize (execOp a.eval o).run P w = r at *
        cases r with
        | halt x w' => exact h1.elim
        | ok nx w' =>
          cases nx with
          | value u => exact hnext u w' h1.1 h1.2
          | enter f args =>
            obtain ⟨hu', hc⟩ := h1
            refine Calls.mono hc fun e w'' he => ?_
            obtain ⟨hu2, v, rfl, hv⟩ := he
            exact hnext v w'' hv (hu'.trans hu2)
          | _ => exact h1.elim

/-- A region by what is known of its values; ds: the slots that it writes. -/
theorem wp_region_relG {id : Nat} {a0 : Act} {w0 : World} {n : Nat} (st : Nat) (ds : List Tmp) (L : List SG) (S : World → Prop) (hm : P.follows .mixedOrders = true) (hn : a0.tmps.size = n) (hB : relG .any ops L n st = true)
    (hds : ∀ o ∈ ops, ∀ d, o.dst = some d → d ∈ ds)
    (hS : ∀ w w', S w → Up w w' → S w') (h0 : S w0)
    (hop : ∀ i o, ops[i]? = some o → i ≠ st → wantG ops L i = true → ∀ ev w, S w → RelEv ops .any (nthG L) a0 o ev w → LeavesR P (nthG L i) w ((execOp ev o).run P w))
    (hfin : ∀ (g : Tmp → Value) w, (∀ i o d, ops[i]? = some o → i ≠ st → o.dst = some d → nthG L i (g d) w) → S w → Up w0 w →
      (ops.size ≤ st → Q .normal (putL a0 (ds.map fun d => (d, g d))) w) ∧ (∀ o, ops[st]? = some o → Oper.wp P o (putL a0 (ds.map fun d => (d, g d))) w (Q .normal) Q)) :
    (Code.region id ops true).wp P Q a0 w0 := by
  refine wp_region_any hm (wpAny_relG hn hB hS hop (fun a w hs hd ho hr hSw hu => ?_) _ _ _ _ ?_ ?_ ?_ ?_ (hS _ _ h0 (Up.drew w0)) (Up.drew w0))
  · rw [putL_eq (ds := ds) hs hd (fun s hs' => ho s fun o' hm he => hs' (hds o' hm s he))]
    exact hfin (fun d => a.tmps.getD d undef) w hr hSw hu
  · unfold leftU; exact Nat.le_trans (List.length_filter_le _ _) (by simp)
  · intro j oj hj hl
    have : j < ops.size := (Array.getElem?_eq_some_iff.1 hj).1
    simp [this] at hl
  · intro h; simp [h]
  · refine ⟨rfl, rfl, by simp, fun _ _ => rfl, fun i o d ho hl _ => ?_⟩
    have : i < ops.size := (Array.getElem?_eq_some_iff.1 ho).1
    simp [this] at hl
/-- What an operation may look at, as a walk wants it. -/
structure EvG (ops : Array Oper) (L : List SG) (a0 : Act) (i : Nat) (ev : Operand → Value) (w : World) : Prop where
  const : ∀ c, ev (.const c) = c
  func : ∀ f, ev (.func f) = .func (.func f) #[] #[]
  global : ∀ g, ev (.global g) = .pointer (some ⟨g, 0, none⟩)
  other : ∀ s, freeB ops s = true → ev (.tmp s) = a0.eval (.tmp s)
  dep : ∀ j d, depB .any ops i j d = true → nthG L j (ev (.tmp d)) w
theorem wp_region_sg {id : Nat} {a0 : Act} {w0 : World} {n : Nat} (st : Nat) (ds : List Tmp) (L : List SG) (S : World → Prop) (hm : P.follows .mixedOrders = true) (hn : a0.tmps.size = n) (hB : relG .any ops L n st = true)
    (hds : dsB ops ds = true) (hS : ∀ w w', S w → Up w w' → S w') (h0 : S w0)
    (hop : ∀ ev w, S w → ∀ i o, i ≠ st → ops[i]? = some o → wantG ops L i = true → EvG ops L a0 i ev w → LeavesR P (nthG L i) w ((execOp ev o).run P w))
    (hfin : ∀ (g : Tmp → Value) w, (∀ i d, i ≠ st → dstB ops i d = true → nthG L i (g d) w) → S w → Up w0 w →
      (ops.size ≤ st → Q .normal (putL a0 (ds.map fun d => (d, g d))) w) ∧ (∀ o, ops[st]? = some o → Oper.wp P o (putL a0 (ds.map fun d => (d, g d))) w (Q .normal) Q)) :
    (Code.region id ops true).wp P Q a0 w0 := by
  refine wp_region_relG (n := n) st ds L S hm hn hB (fun o ho d hd => ?_) hS h0 (fun i o hi hne hwt ev w hSw hev => ?_) (fun g w hr => hfin g w fun i d hne hd => ?_)
  · have := Array.all_eq_true_iff_forall_mem.1 hds o ho
    simpa [hd] using this
  · refine hop ev w hSw i o hne hi hwt ⟨hev.const, hev.func, hev.global, fun s hs => hev.other s fun o' ho' => ?_, fun j d hj => ?_⟩
    · have := Array.all_eq_true_iff_forall_mem.1 hs o' ho'
      simpa using this
    · unfold depB at hj
      rw [hi] at hj
      cases hoj : ops[j]? with
      | none => rw [hoj] at hj; cases hj
      | some o' =>
        rw [hoj] at hj
        simp only [Bool.and_eq_true, Array.any_eq_true', beq_iff_eq] at hj
        obtain ⟨⟨e, he, hb, hon⟩, hd⟩ := hj
        exact hev.dep j o' d hoj ⟨e, he, hb, hon⟩ hd
  · unfold dstB at hd
    cases ho : ops[i]? with
    | none => rw [ho] at hd; cases hd
    | some o' =>
      rw [ho] at hd
      exact hr i o' d ho hne (by simpa using hd)
end
end Go.Proofs.Ytmpikkhfeogdcaa
