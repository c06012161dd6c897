import Derived.Test.YtjoenldfjggciaaGreatDoorPf
import Derived.Deep.MidRow
import Derived.Laws.CopyRow
import Derived.DataShut
import Derived.Test.YtjoenldfjggciaaGreatDoorRows
import Derived.Test.YtjoenldfjggciaaGreatDoorTie
import Derived.ChangeSame
import Derived.ChangeVars
import Derived.JoinedOf
import Derived.RowKit
import Derived.RowKitTokens
import Derived.LaidLaws
import Derived.LaidHandle
import Derived.Stop.Joined
import Derived.ChangeMaps5
import Derived.SevenTiedAt
namespace Go.Proofs.YtjoenldfjggciaaGreatDoor
open Go Go.RowKit
set_option maxRecDepth 100000
set_option linter.unusedSimpArgs false
section
variable {P : Program} {ops : Array Oper} {Q : Exit → Act → World → Prop} {md : Region.Mode}
structure SG where
  p : Value → World → Prop
  up : ∀ v w w', p v w → Up w w' → p v w'
  b : Option Bool
  hb : ∀ c, b = some c → ∀ v w, p v w → v = .bool c
  u : Bool
  hu : u = true → ∀ w, p undef w
def SG.is (c : Value) : SG := ⟨fun v _ => v = c, fun _ _ _ h _ => h, none, (by simp), false, (by simp)⟩
def SG.tt (c : Bool) : SG := ⟨fun v _ => v = .bool c, fun _ _ _ h _ => h, some c, (fun _ h _ _ e => (by injection h with h; subst h; exact e)), false, (by simp)⟩
def SG.no : SG := ⟨fun v _ => v = undef, fun _ _ _ h _ => h, none, (by simp), true, (by simp)⟩
def SG.any : SG := ⟨fun _ _ => True, fun _ _ _ h _ => h, none, (by simp), true, (by simp)⟩
def SG.of (p : Value → World → Prop) (up : ∀ v w w', p v w → Up w w' → p v w') : SG := ⟨p, up, none, (by simp), false, (by simp)⟩
def nthG (L : List SG) (i : Nat) (v : Value) (w : World) : Prop := (L.getD i SG.any).p v w
def wantG (ops : Array Oper) (L : List SG) (i : Nat) : Bool := match (ops[i]?).bind (·.guard) with | none => true | some (j, b) => (L.getD j SG.any).b == some b
def gdB (md : Region.Mode) (ops : Array Oper) (L : List SG) (st i : Nat) : Bool :=
  match ops[i]? with
  | none => true
  | some o => match o.guard with
    | none => true
    | some (j, b) => j != st && (o.after.any fun e => Region.binds md e && e.on == j) && (((ops[j]?).map fun o' => o'.dst.isSome).getD false) && ((L.getD j SG.any).b == some b || ((L.getD j SG.any).b == some (!b) && (L.getD i SG.any).u))
def relG (md : Region.Mode) (ops : Array Oper) (L : List SG) (n st : Nat) : Bool :=
  ((List.range ops.size).all fun i => ((ops[i]?).map fun o => gdB md ops L st i && (o.after.all fun e => !Region.binds md e || decide (e.on < i)) &&
    (if i = st then o.dst.isNone && o.guard.isNone else ((o.dst.map fun d => decide (d < n)).getD false) && (List.range ops.size).all fun j => j == i || ((ops[j]?).map fun o' => o'.dst != o.dst).getD true)).getD false) &&
  (decide (ops.size ≤ st) || (List.range ops.size).all fun j => j == st || waitsU md ops j ops.size st)
theorem relG_op {L : List SG} {n st : Nat} (h : relG md ops L n st = true) {i : Nat} {o : Oper} (hi : ops[i]? = some o) :
    gdB md ops L st i = true ∧ (∀ e ∈ o.after, Region.binds md e = true → e.on < i) ∧ (i = st → o.dst = none ∧ o.guard = none) ∧
    (i ≠ st → ∃ d, o.dst = some d ∧ d < n ∧ ∀ j o', ops[j]? = some o' → j ≠ i → o'.dst ≠ some d) := by
  unfold relG at h
  rw [Bool.and_eq_true] at h
  have hlt : i < ops.size := (Array.getElem?_eq_some_iff.1 hi).1
  have h1 := List.all_eq_true.1 h.1 i (List.mem_range.2 hlt)
  rw [hi] at h1
  simp only [Option.map_some, Option.getD_some, Bool.and_eq_true] at h1
  obtain ⟨⟨h2, h3⟩, h4⟩ := h1
  refine ⟨h2, fun e he hb => ?_, fun hs => ?_, fun hs => ?_⟩
  · have := Array.all_eq_true_iff_forall_mem.1 h3 e he
    simpa [hb] using this
  · rw [if_pos hs, Bool.and_eq_true] at h4
    exact ⟨Option.isNone_iff_eq_none.1 h4.1, Option.isNone_iff_eq_none.1 h4.2⟩
  · rw [if_neg hs, Bool.and_eq_true] at h4
    cases hd : o.dst with
    | none => rw [hd] at h4; simp at h4
    | some d =>
      rw [hd] at h4
      refine ⟨d, rfl, by simpa using h4.1, fun j o' hj hji => ?_⟩
      have h5 := List.all_eq_true.1 h4.2 j (List.mem_range.2 (Array.getElem?_eq_some_iff.1 hj).1)
      rw [hj] at h5
      simp only [Option.map_some, Option.getD_some, Bool.or_eq_true, beq_iff_eq, bne_iff_ne] at h5
      exact h5.resolve_left hji
theorem relG_store {L : List SG} {n st : Nat} (h : relG md ops L n st = true) {j : Nat} (hj : j < ops.size) (hs : st < ops.size) (hne : j ≠ st) : waitsU md ops j ops.size st = true := by
  unfold relG at h
  rw [Bool.and_eq_true, Bool.or_eq_true] at h
  rcases h.2 with h2 | h2
  · have := of_decide_eq_true h2; omega
  · have := List.all_eq_true.1 h2 j (List.mem_range.2 hj)
    simpa [hne] using this
theorem relG_want {L : List SG} {n st : Nat} (h : relG md ops L n st = true) {i : Nat} {o : Oper} (hi : ops[i]? = some o) {a a0 : Act} {w : World} (hn : a.tmps.size = n) {listed : Array Bool}
    (hall : ∀ e ∈ o.after, Region.binds md e = true → listed.getD e.on false = true) (hI : RelInv ops (nthG L) a0 listed a w) :
    Region.wanted o (yielded ops a.tmps) = wantG ops L i ∧ (wantG ops L i = false → ∀ w, nthG L i undef w) := by
  obtain ⟨h1, _, _, _⟩ := relG_op h hi
  unfold gdB at h1
  unfold wantG
  rw [hi] at h1 ⊢
  dsimp only [Option.bind_some] at h1 ⊢
  unfold Region.wanted
  cases hg : o.guard with
  | none => simp [hg]
  | some jb =>
    obtain ⟨j, b⟩ := jb
    rw [hg] at h1
    simp only [Bool.and_eq_true, bne_iff_ne, Array.any_eq_true', beq_iff_eq, Bool.or_eq_true] at h1
    obtain ⟨⟨⟨hjs, e, he, hb, hon⟩, hd⟩, hk⟩ := h1
    cases hoj : ops[j]? with
    | none => rw [hoj] at hd; cases hd
    | some o' =>
      rw [hoj] at hd
      simp only [Option.map_some, Option.getD_some] at hd
      obtain ⟨d, hd⟩ := Option.isSome_iff_exists.1 hd
      obtain ⟨d', hd', hdn, _⟩ := (relG_op h hoj).2.2.2 hjs
      rw [hd] at hd'
      obtain rfl := Option.some.inj hd'
      have hR := hI.done j o' d hoj (by have := hall e he hb; rw [hon] at this; exact this) hd
      have hy : ∀ c, (L.getD j SG.any).b = some c → yielded ops a.tmps j = some c := fun c hc => by
        have hv := (L.getD j SG.any).hb c hc _ _ hR
        unfold yielded
        rw [hoj]
        have hds : d < a.tmps.size := by rw [hn]; exact hdn
        simp only [Option.bind_some, hd]
        rw [Array.getElem?_eq_getElem hds]
        have e2 : a.tmps.getD d undef = a.tmps[d] := by simp [hds]
        rw [e2] at hv
        rw [hv]
      simp only [Option.bind_some, hg]
      rcases hk with hk | ⟨hk, hu⟩
      · rw [hy b hk, hk]; simp
      · rw [hy _ hk, hk]
        refine ⟨by cases b <;> rfl, fun _ w => (L.getD i SG.any).hu hu w⟩
theorem exists_readyG {L : List SG} {n st : Nat} (hB : relG md ops L n st = true) {listed : Array Bool} (hs : listed.size = ops.size) : ∀ k, k < ops.size → listed.getD k true = false → ∃ i, i ∈ Region.ready md ops listed := by
  intro k
  induction k using Nat.strongRecOn with
  | _ k ih =>
    intro hk hl
    obtain ⟨o, ho⟩ : ∃ o, ops[k]? = some o := ⟨ops[k], Array.getElem?_eq_getElem hk⟩
    obtain ⟨_, h2, _⟩ := relG_op hB ho
    by_cases hall : ∀ e ∈ o.after, Region.binds md e = true → listed.getD e.on false = true
    · exact ⟨k, mem_ready.2 ⟨hl, o, ho, hall⟩⟩
    · obtain ⟨e, hne⟩ := Classical.not_forall.1 hall
      obtain ⟨he, hne⟩ := Classical.not_imp.1 hne
      obtain ⟨hb, hne⟩ := Classical.not_imp.1 hne
      have hlt := h2 e he hb
      refine ih e.on hlt (by omega) ?_
      have hsz : e.on < listed.size := by omega
      simp [hsz] at hne ⊢
      exact hne
theorem wpAny_relG {L : List SG} {n st : Nat} {S : World → Prop} {a0 : Act} {w0 : World} (hn : a0.tmps.size = n) (hB : relG md ops L n st = true)
    (hS : ∀ w w', S w → Up w w' → S w')
    (hop : ∀ i o, ops[i]? = some o → i ≠ st → wantG ops L i = true → ∀ ev w, S w → RelEv ops md (nthG L) a0 o ev w → LeavesR P (nthG L i) w ((execOp ev o).run P w))
    (hfin : ∀ a w, a.tmps.size = a0.tmps.size → a.defers = a0.defers → (∀ s, (∀ o' ∈ ops, o'.dst ≠ some s) → a.tmps[s]? = a0.tmps[s]?) → (∀ i o d, ops[i]? = some o → i ≠ st → o.dst = some d → nthG L i (a.tmps.getD d undef) w) → S w → Up w0 w →
      (ops.size ≤ st → Q .normal a w) ∧ (∀ o, ops[st]? = some o → Oper.wp P o a w (Q .normal) Q)) :
    ∀ (fuel : Nat) (listed : Array Bool) (a : Act) (w : World), leftU ops.size listed ≤ fuel → closedU md ops listed → (st < ops.size → listed.getD st true = false) → RelInv ops (nthG L) a0 listed a w → S w → Up w0 w → wpAny P md ops Q fuel listed a w := by
  intro fuel
  induction fuel with
  | zero =>
    intro listed a w hf hcl hst hI hSw hu
    have hz := fun {j} => leftU_zero (listed := listed) (n := ops.size) (by omega) (j := j)
    have hst' : ops.size ≤ st := by
      rcases Nat.lt_or_ge st ops.size with h | h
      · have := hst h; rw [hz h] at this; cases this
      · exact h
    refine ⟨?_, ?_⟩
    · cases hrd : Region.ready md ops listed with
      | nil => rfl
      | cons i l =>
        obtain ⟨h1, o, ho, _⟩ := mem_ready.1 (show i ∈ Region.ready md ops listed by rw [hrd]; exact List.mem_cons_self)
        rw [hz (Array.getElem?_eq_some_iff.1 ho).1] at h1
        cases h1
    · refine (hfin a w hI.size hI.defers hI.other (fun i o d ho hi hd => hI.done i o d ho ?_ hd) hSw hu).1 hst'
      have h1 := hz (Array.getElem?_eq_some_iff.1 ho).1
      have h2 : i < listed.size := by rw [hI.lsize]; exact (Array.getElem?_eq_some_iff.1 ho).1
      simp [h2] at h1 ⊢
      exact h1
  | succ fuel ih =>
    intro listed a w hf hcl hst hI hSw hu
    have hcase : Region.ready md ops listed = [] → ∀ j, j < ops.size → listed.getD j true = true := by
      intro hr j hj
      cases hl : listed.getD j true with
      | true => rfl
      | false =>
        obtain ⟨i, hi⟩ := exists_readyG hB hI.lsize j hj hl
        rw [hr] at hi
        cases hi
    have hfull : ∀ (hz : ∀ j, j < ops.size → j ≠ st → listed.getD j true = true) (i : Nat) (o : Oper) (d : Tmp), ops[i]? = some o → i ≠ st → o.dst = some d → nthG L i (a.tmps.getD d undef) w := by
      intro hz i o d ho hi hd
      refine hI.done i o d ho ?_ hd
      have h1 := hz i (Array.getElem?_eq_some_iff.1 ho).1 hi
      have h2 : i < listed.size := by rw [hI.lsize]; exact (Array.getElem?_eq_some_iff.1 ho).1
      simp [h2] at h1 ⊢
      exact h1
    refine ⟨fun hr => ?_, fun i hi => ?_⟩
    · have hz := hcase hr
      have hst' : ops.size ≤ st := by
        rcases Nat.lt_or_ge st ops.size with h | h
        · have := hst h; rw [hz st h] at this; cases this
        · exact h
      exact (hfin a w hI.size hI.defers hI.other (hfull fun j hj _ => hz j hj) hSw hu).1 hst'
    · obtain ⟨hun, o, ho, hall⟩ := mem_ready.1 hi
      have hlt : i < ops.size := (Array.getElem?_eq_some_iff.1 ho).1
      obtain ⟨hg, _, hdn, hds⟩ := relG_op hB ho
      obtain ⟨hwt, hno⟩ := relG_want hB ho (by rw [hI.size, hn]) hall hI
      by_cases his : i = st
      · subst his
        have hw : Region.wanted o (yielded ops a.tmps) = true := by simp [Region.wanted, (hdn rfl).2]
        unfold wpOp
        simp only [ho, hw, if_true]
        refine .inl ?_
        have hz : ∀ j, j < ops.size → j ≠ i → listed.getD j true = true := by
          intro j hj hne
          have h1 := waitsU_spec hcl ops.size i o ho hall (relG_store hB hj hlt hne)
          have h2 : j < listed.size := by rw [hI.lsize]; exact hj
          simp [h2] at h1 ⊢
          exact h1
        have h1 := (hfin a w hI.size hI.defers hI.other (hfull hz) hSw hu).2 o ho
        have hnil : Region.ready md ops (listed.setIfInBounds i true) = [] := by
          cases hrd : Region.ready md ops (listed.setIfInBounds i true) with
          | nil => rfl
          | cons k l =>
            obtain ⟨h1, ok, hok, _⟩ := mem_ready.1 (show k ∈ Region.ready md ops (listed.setIfInBounds i true) by rw [hrd]; exact List.mem_cons_self)
            have hk : k < ops.size := (Array.getElem?_eq_some_iff.1 hok).1
            by_cases hki : k = i
            · subst hki
              have h2 : k < listed.size := by rw [hI.lsize]; exact hk
              simp [h2] at h1
            · rw [getD_set_ne true (Ne.symm hki), hz k hk hki] at h1
              cases h1
        refine Oper.wp_mono (fun a' w' hq => ?_) h1
        cases fuel with
        | zero => exact ⟨hnil, hq⟩
        | succ f => exact ⟨fun _ => hq, by rw [hnil]; intro j hj; cases hj⟩
      · obtain ⟨d, hd, hdl, hdd⟩ := hds his
        have hev : RelEv ops md (nthG L) a0 o a.eval w := by
          refine ⟨fun _ => rfl, fun _ => rfl, fun _ => rfl, fun s hs => ?_, fun j o' d' hj he hd' => ?_⟩
          · show a.tmps.getD s undef = a0.tmps.getD s undef
            rw [Array.getD_eq_getD_getElem?, Array.getD_eq_getD_getElem?, hI.other s hs]
          · obtain ⟨e, he, hb, rfl⟩ := he
            exact hI.done e.on o' d' hj (hall e he hb) hd'
        have hnext : ∀ v w', nthG L i v w' → Up w w' → wpAny P md ops Q fuel (listed.setIfInBounds i true) (a.put o.dst v) w' := by
          intro v w' hv hu'
          refine ih _ _ _ ?_ (closedU_set hcl hi) (fun h => ?_) ?_ (hS _ _ hSw hu') (hu.trans hu')
          · have := leftU_set (n := ops.size) hlt hun; omega
          · rw [getD_set_ne true his]; exact hst h
          · rw [hd]
            refine ⟨hI.defers, by simp [Act.put, hI.size], by simp [hI.lsize], fun s hs => ?_, fun j o' d' hj hl hd' => ?_⟩
            · have hne : d ≠ s := by
                rintro rfl
                obtain ⟨hx, hy⟩ := Array.getElem?_eq_some_iff.1 ho
                exact hs o (by rw [← hy]; exact Array.getElem_mem hx) hd
              rw [← hI.other s hs]
              simp [Act.put, hne]
            · by_cases hji : j = i
              · subst hji
                rw [ho] at hj
                obtain rfl := Option.some.inj hj
                rw [hd] at hd'
                obtain rfl := Option.some.inj hd'
                have hds : d < a.tmps.size := by rw [hI.size, hn]; exact hdl
                have e : ((a.put (some d) v).tmps.getD d undef) = v := by simp [Act.put, hds]
                rw [e]
                exact hv
              · have hne : d ≠ d' := fun e => hdd j o' hj hji (by rw [hd', e])
                rw [getD_set_ne false (Ne.symm hji)] at hl
                have e : ((a.put (some d) v).tmps.getD d' undef) = a.tmps.getD d' undef := by
                  rw [Array.getD_eq_getD_getElem?, Array.getD_eq_getD_getElem?]
                  simp [Act.put, hne]
                rw [e]
                exact (L.getD j SG.any).up _ _ _ (hI.done j o' d' hj hl hd') hu'
        unfold wpOp
        simp only [ho, hwt]
        cases hwg : wantG ops L i with
        | false =>
          simp only [Bool.false_eq_true, if_false]
          exact hnext _ _ (hno hwg w) (Up.refl _)
        | true =>
        simp only [if_true]
        refine .inl ?_
        have h1 := hop i o ho his hwg a.eval w hSw hev
        unfold Oper.wp
        generalize (execOp a.eval o).run P w = r at *
        cases r with
        | halt x w' => exact h1.elim
        | ok nx w' =>
          cases nx with
          | value u => exact hnext u w' h1.1 h1.2
          | enter f args =>
            obtain ⟨hu', hc⟩ := h1
            refine Calls.mono hc fun e w'' he => ?_
            obtain ⟨hu2, v, rfl, hv⟩ := he
            exact hnext v w'' hv (hu'.trans hu2)
          | _ => exact h1.elim
theorem wp_region_relG {id : Nat} {a0 : Act} {w0 : World} {n : Nat} (st : Nat) (ds : List Tmp) (L : List SG) (S : World → Prop) (hm : P.follows .mixedOrders = true) (hn : a0.tmps.size = n) (hB : relG .any ops L n st = true)
    (hds : ∀ o ∈ ops, ∀ d, o.dst = some d → d ∈ ds)
    (hS : ∀ w w', S w → Up w w' → S w') (h0 : S w0)
    (hop : ∀ i o, ops[i]? = some o → i ≠ st → wantG ops L i = true → ∀ ev w, S w → RelEv ops .any (nthG L) a0 o ev w → LeavesR P (nthG L i) w ((execOp ev o).run P w))
    (hfin : ∀ (g : Tmp → Value) w, (∀ i o d, ops[i]? = some o → i ≠ st → o.dst = some d → nthG L i (g d) w) → S w → Up w0 w →
      (ops.size ≤ st → Q .normal (putL a0 (ds.map fun d => (d, g d))) w) ∧ (∀ o, ops[st]? = some o → Oper.wp P o (putL a0 (ds.map fun d => (d, g d))) w (Q .normal) Q)) :
    (Code.region id ops true).wp P Q a0 w0 := by
  refine wp_region_any hm (wpAny_relG hn hB hS hop (fun a w hs hd ho hr hSw hu => ?_) _ _ _ _ ?_ ?_ ?_ ?_ (hS _ _ h0 (Up.drew w0)) (Up.drew w0))
  · rw [putL_eq (ds := ds) hs hd (fun s hs' => ho s fun o' hm he => hs' (hds o' hm s he))]
    exact hfin (fun d => a.tmps.getD d undef) w hr hSw hu
  · unfold leftU; exact Nat.le_trans (List.length_filter_le _ _) (by simp)
  · intro j oj hj hl
    have : j < ops.size := (Array.getElem?_eq_some_iff.1 hj).1
    simp [this] at hl
  · intro h; simp [h]
  · refine ⟨rfl, rfl, by simp, fun _ _ => rfl, fun i o d ho hl _ => ?_⟩
    have : i < ops.size := (Array.getElem?_eq_some_iff.1 ho).1
    simp [this] at hl
structure EvG (ops : Array Oper) (L : List SG) (a0 : Act) (i : Nat) (ev : Operand → Value) (w : World) : Prop where
  const : ∀ c, ev (.const c) = c
  func : ∀ f, ev (.func f) = .func (.func f) #[] #[]
  global : ∀ g, ev (.global g) = .pointer (some ⟨g, 0, none⟩)
  other : ∀ s, freeB ops s = true → ev (.tmp s) = a0.eval (.tmp s)
  dep : ∀ j d, depB .any ops i j d = true → nthG L j (ev (.tmp d)) w
theorem wp_region_sg {id : Nat} {a0 : Act} {w0 : World} {n : Nat} (st : Nat) (ds : List Tmp) (L : List SG) (S : World → Prop) (hm : P.follows .mixedOrders = true) (hn : a0.tmps.size = n) (hB : relG .any ops L n st = true)
    (hds : dsB ops ds = true) (hS : ∀ w w', S w → Up w w' → S w') (h0 : S w0)
    (hop : ∀ ev w, S w → ∀ i o, i ≠ st → ops[i]? = some o → wantG ops L i = true → EvG ops L a0 i ev w → LeavesR P (nthG L i) w ((execOp ev o).run P w))
    (hfin : ∀ (g : Tmp → Value) w, (∀ i d, i ≠ st → dstB ops i d = true → nthG L i (g d) w) → S w → Up w0 w →
      (ops.size ≤ st → Q .normal (putL a0 (ds.map fun d => (d, g d))) w) ∧ (∀ o, ops[st]? = some o → Oper.wp P o (putL a0 (ds.map fun d => (d, g d))) w (Q .normal) Q)) :
    (Code.region id ops true).wp P Q a0 w0 := by
  refine wp_region_relG (n := n) st ds L S hm hn hB (fun o ho d hd => ?_) hS h0 (fun i o hi hne hwt ev w hSw hev => ?_) (fun g w hr => hfin g w fun i d hne hd => ?_)
  · have := Array.all_eq_true_iff_forall_mem.1 hds o ho
    simpa [hd] using this
  · refine hop ev w hSw i o hne hi hwt ⟨hev.const, hev.func, hev.global, fun s hs => hev.other s fun o' ho' => ?_, fun j d hj => ?_⟩
    · have := Array.all_eq_true_iff_forall_mem.1 hs o' ho'
      simpa using this
    · unfold depB at hj
      rw [hi] at hj
      cases hoj : ops[j]? with
      | none => rw [hoj] at hj; cases hj
      | some o' =>
        rw [hoj] at hj
        simp only [Bool.and_eq_true, Array.any_eq_true', beq_iff_eq] at hj
        obtain ⟨⟨e, he, hb, hon⟩, hd⟩ := hj
        exact hev.dep j o' d hoj ⟨e, he, hb, hon⟩ hd
  · unfold dstB at hd
    cases ho : ops[i]? with
    | none => rw [ho] at hd; cases hd
    | some o' =>
      rw [ho] at hd
      exact hr i o' d ho hne (by simpa using hd)
end
theorem undBs : Tryz.prog.underlying 49 = some (.slice 46) := by kernel_rfl
theorem infoBs : (Tryz.prog.info? 46).map (fun i => (i.zero, i.size, i.bytes)) = some (some (.agg #[.bool false, .slice none 0 0]), 2, 32) := by kernel_rfl
def BigAt (w : World) (get : Nat → Option Value) (i : Nat) (z : Int) : Prop :=
  ∃ b a n c, get (i * 2) = some (.bool b) ∧ get (i * 2 + 1) = some (.slice a n c) ∧ Big w (.agg #[.bool b, .slice a n c]) z
theorem BigAt.up {w w' : World} (hu : Up w w') {get : Nat → Option Value} {i : Nat} {z : Int} (h : BigAt w get i z) : BigAt w' get i z := by
  obtain ⟨b, a, n, c, h1, h2, h3⟩ := h
  exact ⟨b, a, n, c, h1, h2, h3.up hu⟩
def OwnB (w : World) (base : Nat) (v : Value) (l : List Int) : Prop :=
  ∃ xs : List Value, w.ownsRow base 46 2 v l.length xs ∧ ∀ i, i < l.length → BigAt w (fun k => xs[k]?) i (zth l i)
theorem OwnB.up {w w' : World} {base : Nat} {v : Value} {l : List Int} (hu : Up w w') (h : OwnB w base v l) : OwnB w' base v l := by
  obtain ⟨xs, h1, h2⟩ := h
  exact ⟨xs, World.ownsRow.up h1 hu, fun i hi => (h2 i hi).up hu⟩
theorem OwnB.nil (w : World) (base : Nat) : OwnB w base (.slice none 0 0) [] := ⟨[], World.ownsRow_nil _ _ _ _, fun _ hi => absurd hi (Nat.not_lt_zero _)⟩
def Bv (w : World) (v : Value) (l : List Int) : Prop :=
  (l = [] ∧ ∃ p c, v = .slice p 0 c) ∨ ∃ g cap C, v = .slice (some ⟨g, 0, none⟩) l.length cap ∧ l.length ≤ cap ∧ Blk w g 46 C ∧ ∀ i, i < l.length → BigAt w (fun k => C[k]?) i (zth l i)
theorem Bv.up {w w' : World} (hu : Up w w') {v : Value} {l : List Int} (h : Bv w v l) : Bv w' v l := by
  rcases h with h | ⟨g, cap, C, h1, h2, h3, h4⟩
  · exact .inl h
  · exact .inr ⟨g, cap, C, h1, h2, h3.up hu, fun i hi => (h4 i hi).up hu⟩
theorem Bv.slice {w : World} {v : Value} {l : List Int} (h : Bv w v l) : ∃ p c, v = .slice p l.length c := by
  rcases h with ⟨rfl, p, c, rfl⟩ | ⟨g, cap, C, rfl, _⟩
  · exact ⟨p, c, rfl⟩
  · exact ⟨_, cap, rfl⟩
theorem Bv.open {w : World} {v : Value} {l : List Int} (h : Bv w v l) (h0 : 0 < l.length) :
    ∃ g cap C, v = .slice (some ⟨g, 0, none⟩) l.length cap ∧ l.length ≤ cap ∧ Blk w g 46 C ∧ ∀ i, i < l.length → BigAt w (fun k => C[k]?) i (zth l i) := by
  rcases h with ⟨rfl, _⟩ | h
  · exact absurd h0 (by decide)
  · exact h
theorem OwnB.open {w : World} {base : Nat} {v : Value} {l : List Int} (h : OwnB w base v l) (h0 : 0 < l.length) :
    ∃ g cap C, v = .slice (some ⟨g, 0, none⟩) l.length cap ∧ base ≤ g ∧ Blk w g 46 C ∧ l.length ≤ cap ∧ cap ≤ maxLen ∧ C.size = cap * 2 ∧ ∀ i, i < l.length → BigAt w (fun k => C[k]?) i (zth l i) := by
  obtain ⟨xs, ⟨_, h1 | ⟨g, cap, cur, hv, hb, hB, hc, hm, hs, ht⟩⟩, h2⟩ := h
  · omega
  · refine ⟨g, cap, cur, hv, hb, hB, hc, hm, hs, fun i hi => ?_⟩
    obtain ⟨b, a, n, c, h3, h4, h5⟩ := h2 i hi
    rw [← ht] at h3 h4
    refine ⟨b, a, n, c, ?_, ?_, h5⟩
    · dsimp only at h3 ⊢; rw [← h3, List.getElem?_take_of_lt (by omega), Array.getElem?_toList]
    · dsimp only at h4 ⊢; rw [← h4, List.getElem?_take_of_lt (by omega), Array.getElem?_toList]
theorem OwnB.bv {w : World} {base : Nat} {v : Value} {l : List Int} (h : OwnB w base v l) : Bv w v l := by
  rcases Nat.eq_zero_or_pos l.length with h0 | h0
  · obtain ⟨xs, ⟨_, ⟨rfl, _⟩ | ⟨g, cap, cur, rfl, _⟩⟩, _⟩ := h
    · exact .inl ⟨List.length_eq_zero_iff.1 h0, _, _, rfl⟩
    · exact .inl ⟨List.length_eq_zero_iff.1 h0, _, _, by rw [h0]⟩
  · obtain ⟨g, cap, C, hv, _, hB, hc, _, _, hE⟩ := h.open h0
    exact .inr ⟨g, cap, C, hv, hc, hB, hE⟩
theorem OwnB.slice {w : World} {base : Nat} {v : Value} {l : List Int} (h : OwnB w base v l) : ∃ p c, v = .slice p l.length c := h.bv.slice
theorem big_zero (w : World) : Big w (.agg #[.bool false, .slice none 0 0]) 0 := ⟨none, 0, by simp [nl_zero], am_nil w⟩
section
variable {a : Act} {w : World} {g off : Nat} {vs : List Value}
theorem bigAt_range {C : Array Value} (hB : Blk w g 46 C) {i : Nat} {b : Bool} {p : Option Addr} {n c : Nat} (h1 : C[i * 2]? = some (.bool b)) (h2 : C[i * 2 + 1]? = some (.slice p n c)) : w.rangeAt g (i * 2) [.bool b, .slice p n c] := by
  intro j v hv
  rcases j with _ | _ | j
  · simp at hv; subst hv; exact hB.cell _ h1
  · simp at hv; subst hv; exact hB.cell _ h2
  · simp at hv
theorem run_ldB2 {o : Oper} {ev : Operand → Value} {x : Operand} {b : Bool} {p : Option Addr} {n c : Nat} (ho : o.op = .load 46 x) (hx : ev x = .pointer (some ⟨g, off, none⟩)) (hC : w.rangeAt g off [.bool b, .slice p n c]) :
    (execOp ev o).run Tryz.prog w = .ok (.value (.agg #[.bool b, .slice p n c])) w := by
  obtain ⟨fs, hfs⟩ := undB
  unfold execOp
  simp only [ho, hx, Instr.loadAt, Instr.sureAddr, Sem.run_bind, Sem.run_pure, Result.andThen_ok, run_loadVar_mid w g off _ _ _ hC hfs rfl (by rw [infoB]; rfl)]
def splB (C : Array Value) (off : Nat) (vs : List Value) : Array Value := (C.toList.take off ++ vs ++ C.toList.drop (off + 2)).toArray
theorem run_svB {C : Array Value} {b : Bool} {p : Option Addr} {n c : Nat} (hB : Blk w g 46 C) (hl : off + 2 ≤ C.size) :
    (storeVar 46 ⟨g, off, none⟩ (.agg #[.bool b, .slice p n c])).run Tryz.prog w = .ok () (w.setRow g (splB C off [.bool b, .slice p n c])) := by
  have hs := run_storeCells_at Tryz.prog g off 46 [.bool b, .slice p n c] 0 C w hB (by simp; omega) (by simp [Value.oneCell'])
  rw [Nat.add_zero] at hs
  unfold splB
  have hi := infoB
  cases hq : Tryz.prog.info? 46 with
  | none => rw [hq] at hi; simp at hi
  | some i =>
    rw [hq] at hi
    have hz : i.size = 2 := by simpa using hi
    have hv : (Value.agg #[.bool b, .slice p n c]).cells.toList = [.bool b, .slice p n c] := rfl
    have hn : (Value.agg #[.bool b, .slice p n c]).cells.size = 2 := rfl
    have hl2 : ([Value.bool b, .slice p n c]).length = 2 := rfl
    rw [hl2] at hs
    simp [storeVar, sizeOf, typeInfo, hq, hz, hv, hn, hs]
theorem wp_stB2 {C : Array Value} {b : Bool} {p : Option Addr} {n c : Nat} {K : Act → World → Prop} {Q : Exit → Act → World → Prop} {o : Oper} (x y : Operand) (ho : o.op = .store 46 x y) (hx : a.eval x = .pointer (some ⟨g, off, none⟩)) (hy : a.eval y = .agg #[.bool b, .slice p n c]) (hB : Blk w g 46 C) (hl : off + 2 ≤ C.size)
    (h : K (a.put o.dst undef) (w.setRow g (splB C off [.bool b, .slice p n c]))) : o.wp Tryz.prog a w K Q := by
  unfold Oper.wp execOp
  simp only [ho, hx, hy, Instr.storeAt, Instr.sureAddr, Sem.run_bind, Sem.run_pure, Result.andThen_ok, run_svB hB hl]
  exact h
end
theorem splB_size {C : Array Value} {off : Nat} {x y : Value} (hl : off + 2 ≤ C.size) : (splB C off [x, y]).size = C.size := by
  unfold splB; simp; omega
theorem splB_get {C : Array Value} {off k : Nat} {x y : Value} (hl : off + 2 ≤ C.size) : (splB C off [x, y])[k]? = if k = off then some x else if k = off + 1 then some y else C[k]? := by
  unfold splB
  have h1 : (C.toList.take off).length = off := by rw [List.length_take, Array.length_toList]; omega
  rw [List.getElem?_toArray]
  rcases Nat.lt_trichotomy k off with h | h | h
  · rw [if_neg (by omega), if_neg (by omega), List.append_assoc, List.getElem?_append_left (by omega), List.getElem?_take_of_lt h, Array.getElem?_toList]
  · subst h
    rw [if_pos rfl, List.append_assoc, List.getElem?_append_right (by omega), h1, Nat.sub_self]
    rfl
  · rw [if_neg (by omega), List.append_assoc, List.getElem?_append_right (by omega), h1]
    by_cases h2 : k = off + 1
    · rw [if_pos h2, h2, show off + 1 - off = 1 by omega]; rfl
    · obtain ⟨d, rfl⟩ : ∃ d, k = off + 2 + d := ⟨k - (off + 2), by omega⟩
      rw [if_neg h2, show off + 2 + d - off = d + 2 by omega]
      show (C.toList.drop (off + 2))[d]? = _
      rw [List.getElem?_drop, Array.getElem?_toList]
theorem OwnB.set {w : World} {base g cap n : Nat} {C : Array Value} {l : List Int} {b : Bool} {p : Option Addr} {m c : Nat} {z : Int} (h : OwnB w base (.slice (some ⟨g, 0, none⟩) n cap) l) (hB : Blk w g 46 C) {i : Nat} (hi : i < l.length) (hb : Big w (.agg #[.bool b, .slice p m c]) z) :
    OwnB (w.setRow g (splB C (i * 2) [.bool b, .slice p m c])) base (.slice (some ⟨g, 0, none⟩) n cap) (l.set i z) ∧ i * 2 + 2 ≤ C.size := by
  obtain ⟨g', cap', C', hv, hbs, hB', hc, hm, hs, hE⟩ := h.open (by omega)
  injection hv with e1 e2 e3
  injection e1 with e1
  injection e1 with e1
  subst e1 e2 e3
  have hCC : C' = C := by
    unfold Blk at hB hB'
    rw [hB] at hB'
    simp at hB'
    exact hB'.symm
  subst hCC
  have hl : i * 2 + 2 ≤ C'.size := by omega
  refine ⟨⟨(splB C' (i * 2) [.bool b, .slice p m c]).toList.take (l.length * 2), ⟨by have e := splB_size (x := .bool b) (y := .slice p m c) hl; have e2 : (splB C' (i * 2) [.bool b, .slice p m c]).toList.length = C'.size := (by rw [← e]; simp); rw [List.length_take, e2, List.length_set]; omega, .inr ⟨g, cap, _, by rw [List.length_set], hbs, hB.setRow _, by rw [List.length_set]; exact hc, hm, by rw [splB_size hl]; exact hs, by rw [List.length_set]⟩⟩, fun k hk => ?_⟩, hl⟩
  rw [List.length_set] at hk
  have hz : zth (l.set i z) k = if i = k then z else zth l k := by
    rw [zth_get (by rw [List.length_set]; exact hk), List.getElem_set]
    split
    · rfl
    · rw [zth_get hk]
  have hget : ∀ q, q < l.length * 2 → ((splB C' (i * 2) [.bool b, .slice p m c]).toList.take (l.length * 2))[q]? = if q = i * 2 then some (.bool b) else if q = i * 2 + 1 then some (.slice p m c) else C'[q]? := fun q hq => by
    rw [List.getElem?_take_of_lt hq, Array.getElem?_toList, splB_get hl]
  rw [hz]
  by_cases e : i = k
  · subst e
    rw [if_pos rfl]
    exact ⟨b, p, m, c, by dsimp only; rw [hget _ (by omega), if_pos rfl], by dsimp only; rw [hget _ (by omega), if_neg (by omega), if_pos rfl], hb.setRow hB⟩
  · rw [if_neg e]
    obtain ⟨b', a', n', c', h1, h2, h3⟩ := hE k hk
    exact ⟨b', a', n', c', by dsimp only; rw [hget _ (by omega), if_neg (by omega), if_neg (by omega)]; exact h1, by dsimp only; rw [hget _ (by omega), if_neg (by omega), if_neg (by omega)]; exact h2, h3.setRow hB⟩
def flat2 (n : Nat) : List Value := (List.replicate n [Value.bool false, .slice none 0 0]).flatten
theorem flat2_len (n : Nat) : (flat2 n).length = n * 2 := by unfold flat2; simp [List.length_flatten]
theorem flat2_get : ∀ n i, i < n * 2 → (flat2 n)[i]? = some (if i % 2 = 0 then .bool false else .slice none 0 0) := by
  intro n
  induction n with
  | zero => intro i h; omega
  | succ n ih =>
    intro i h
    unfold flat2
    rw [List.replicate_succ, List.flatten_cons]
    rcases i with _ | _ | i
    · rfl
    · rfl
    · show (flat2 n)[i]? = _
      rw [ih i (by omega), show (i + 1 + 1) % 2 = i % 2 by omega]
theorem made_zeros (n : Nat) : madeCells (Value.agg #[.bool false, .slice none 0 0]).cells (n * 2) = (flat2 n).toArray := by
  apply Array.ext'
  apply List.ext_getElem?
  intro i
  by_cases hi : i < n * 2
  · rw [flat2_get n i hi]
    rcases Nat.mod_two_eq_zero_or_one i with h | h <;> simp [madeCells, Value.cells, h, hi]
  · rw [List.getElem?_eq_none (by simp [madeCells]; omega), List.getElem?_eq_none (by show (flat2 n).length ≤ i; rw [flat2_len]; omega)]
theorem mkBs {ops : Array Oper} {rest : List Oper} {Q : Exit → Act → World → Prop} {a : Act} {w : World} {d : Option Tmp} {l : Tmp} {ty : TypeId} {pos : String} {af : Array Edge} {n : Nat} (hl : a.eval (.tmp l) = .int .i64 (n : Nat)) (hn : n < 1000000)
    (h : ∀ w', OwnB w' w.heap.size (.slice (some ⟨w.heap.size, 0, none⟩) n n) (List.replicate n 0) → Up w w' → wpList Tryz.prog ops Q rest (a.put d (.slice (some ⟨w.heap.size, 0, none⟩) n n)) w') :
    wpList Tryz.prog ops Q ({ dst := d, op := .makeSlice 49 (.tmp l) (.tmp l), type := ty, pos := pos, after := af, guard := none } :: rest) a w := by
  refine wpList_plain rfl fun _ hK => ?_
  have hi := infoBs
  cases hq : Tryz.prog.info? 46 with
  | none => rw [hq] at hi; simp at hi
  | some i =>
    rw [hq] at hi
    simp only [Option.map_some, Option.some.injEq, Prod.mk.injEq] at hi
    have hr := run_make (P := Tryz.prog) (w := w) 49 46 i (.agg #[.bool false, .slice none 0 0]) undBs hq hi.1 .i64 .i64 (n : Int) (n : Int) (by omega) (by omega) (by rw [hi.2.2]; omega) (by omega)
    rw [hi.2.1, Int.toNat_natCast, made_zeros] at hr
    unfold Oper.wp execOp
    simp only [hl, Sem.run_bind, Sem.run_pure, Result.andThen_ok, hr]
    refine hK _ _ (h _ ⟨flat2 n, ⟨by rw [flat2_len, List.length_replicate], .inr ⟨w.heap.size, n, _, by rw [List.length_replicate], Nat.le_refl _, heap_alloc_new w _, by rw [List.length_replicate]; exact Nat.le_refl _, by unfold maxLen; omega, flat2_len n, ?_⟩⟩, fun k hk => ?_⟩ (Up.alloc _ _))
    · rw [List.length_replicate]
      exact List.take_of_length_le (by rw [flat2_len]; exact Nat.le_refl _)
    · rw [List.length_replicate] at hk
      have e : zth (List.replicate n (0 : Int)) k = 0 := by rw [zth_get (by rw [List.length_replicate]; exact hk)]; simp
      rw [e]
      exact ⟨false, none, 0, 0, by dsimp only; rw [flat2_get _ _ (by omega), if_pos (by omega)], by dsimp only; rw [flat2_get _ _ (by omega), if_neg (by omega)], big_zero _⟩
theorem Big.grown {w w' : World} {row : Option Nat} {v : Value} {z : Int} (h : Big w v z) (hg : w.grownBy w' row) (hr : ∀ k, row = some k → ∃ C, Blk w k 46 C) : Big w' v z := by
  obtain ⟨a, c, h1, a2, c2, h2, h3, h4⟩ := h
  refine ⟨a, c, h1, a2, c2, h2, h3, fun h0 => ?_⟩
  obtain ⟨b, E, h5, h6, h7⟩ := h4 h0
  refine ⟨b, E, h5, ?_, h7⟩
  unfold Blk
  rw [hg.block b h6.lt ?_]
  · exact h6
  · intro e
    obtain ⟨C, hC⟩ := hr b e.symm
    unfold Blk at hC h6
    rw [hC] at h6
    simp at h6
def tA (n : Nat) (l x : List Int) (i j : Nat) : List Int := mk n fun q => if q < i then tmS n l x q n else if q = i then tmS n l x i j else 0
theorem tA_len (n : Nat) (l x : List Int) (i j : Nat) : (tA n l x i j).length = n := mk_len _ _
theorem tA_zero (n : Nat) (l x : List Int) : tA n l x 0 0 = List.replicate n 0 := by
  refine zth_ext (by rw [tA_len, List.length_replicate]) fun q hq => ?_
  rw [tA_len] at hq
  unfold tA
  rw [mk_at hq, if_neg (by omega), zth_get (by rw [List.length_replicate]; exact hq), List.getElem_replicate]
  split <;> rfl
theorem tA_row (n : Nat) (l x : List Int) (i : Nat) : tA n l x i n = tA n l x (i + 1) 0 := by
  refine zth_ext (by rw [tA_len, tA_len]) fun q hq => ?_
  rw [tA_len] at hq
  unfold tA
  rw [mk_at hq, mk_at hq]
  by_cases h1 : q < i
  · rw [if_pos h1, if_pos (by omega)]
  · rw [if_neg h1]
    by_cases h2 : q = i
    · rw [if_pos h2, if_pos (by omega), h2]
    · rw [if_neg h2, if_neg (by omega)]
      split <;> rfl
theorem tA_all (n : Nat) (l x : List Int) : tA n l x n 0 = tmL n l x := by
  refine zth_ext (by rw [tA_len]; exact (mk_len _ _).symm) fun q hq => ?_
  rw [tA_len] at hq
  unfold tA tmL
  rw [mk_at hq, mk_at hq, if_pos hq]
theorem tA_at (n : Nat) (l x : List Int) {i : Nat} (j : Nat) (hi : i < n) : zth (tA n l x i j) i = tmS n l x i j := by
  unfold tA
  rw [mk_at hi, if_neg (by omega), if_pos rfl]
theorem tA_set (n : Nat) (l x : List Int) {i : Nat} (j k : Nat) (_ : i < n) : (tA n l x i j).set i (tmS n l x i k) = tA n l x i k := by
  refine zth_ext (by rw [List.length_set, tA_len, tA_len]) fun q hq => ?_
  rw [List.length_set, tA_len] at hq
  have e : zth ((tA n l x i j).set i (tmS n l x i k)) q = if i = q then tmS n l x i k else zth (tA n l x i j) q := by
    rw [zth_get (by rw [List.length_set, tA_len]; exact hq), List.getElem_set]
    split
    · rfl
    · rw [zth_get (by rw [tA_len]; exact hq)]
  rw [e]
  unfold tA
  rw [mk_at hq, mk_at hq]
  by_cases h1 : i = q
  · subst h1; rw [if_pos rfl, if_neg (by omega), if_pos rfl]
  · rw [if_neg h1, if_neg (show ¬ q = i by omega)]
    rw [if_neg (show ¬ q = i by omega)]
def RWidesPost (w : World) (l : List Int) (e : Int) (r : Ending) (w' : World) : Prop := ∃ z, r = .returned (.tuple #[z, .int .i64 e]) ∧ Up w w' ∧ Bv w' z l
theorem bv_nil (w : World) : Bv w (.slice none 0 0) [] := .inl ⟨rfl, none, 0, rfl⟩
set_option maxHeartbeats 8000000 in
theorem rtimes_w {v xv : Value} {N : Int} {l x : List Int} {w : World} (hm : Sm w v N l) (hh : Vw w xv x) (hI : In64 x) (hh3 : x.length ≤ 1000) :
    Calls Tryz.prog 87 #[v, xv] w (RWidesPost w (tmR N l x) (tmC N l x)) := by
  have HR := hid (fun w' (hu : Up w w') => rright_any (hm.up hu))
  have HSm := hid hm
  obtain ⟨s, rfl, hV, hN, hl, hlen⟩ := hm
  obtain ⟨p, cap, rfl, hcap, hc⟩ := hV
  have HH := hid hh
  obtain ⟨q, cq, rfl, _⟩ := hh
  obtain ⟨W0, hW0⟩ : ∃ W0, w.alloc (.cells #[.int .i64 N, .slice p l.length cap] 24) = W0 := ⟨_, rfl⟩
  have hB : Blk W0 w.heap.size 24 #[.int .i64 N, .slice p l.length cap] := by rw [← hW0]; exact Blk.new _ _ rfl
  have hU : Up w W0 := by rw [← hW0]; exact Up.alloc _ _
  cases hR : rt N l with
  | false =>
    have e : tmC N l x = 23 := by unfold tmC; rw [hR]; rfl
    have e2 : tmR N l x = [] := by unfold tmR; rw [e]; rfl
    rw [e, e2]
    rw [hR] at HR
    clear e e2 hR hc hl hN hI
    go_enter Tryz.func87, Tryz.ntmps87
    go_wp2_with (first
      | ((with_reducible apply ldM_P); exact rfl; exact rfl; exact hB; exact rfl)
      | (go_at_call 17; (with_reducible refine (HR.out _ hU).mono ?_); rintro r w1 ⟨rfl, hu1⟩))
    go_ret2
    exact ⟨_, rfl, hU.trans hu1, bv_nil _⟩
  | true =>
    rw [hR] at HR
    by_cases hn0 : (x.length : Int) = N
    · obtain ⟨n, rfl⟩ : ∃ n : Nat, N = (n : Int) := ⟨x.length, hn0.symm⟩
      have hxn : x.length = n := by omega
      obtain ⟨_, n8, htri, _⟩ := rt_spec hR
      have e : tmC n l x = 0 := by unfold tmC; rw [hR, decide_eq_true hn0]; rfl
      have e2 : tmR n l x = tmL n l x := by unfold tmR; rw [e, if_pos rfl]; rfl
      rw [e, e2]
      have d3 : ((x.length : Int) != (n : Int)) = false := by rw [hn0]; simp
      have HAT := hid (fun (i j : Nat) (hi : i < n) (hj : j < n) w' (hu : Up w w') => rat_ent (i : Int) (j : Int) (HSm.out.up hu) hR (show rng (n : Int) i j = true from decide_eq_true (by omega)))
      have HS := hid (fun i k (hi : i < n) (hk : k ≤ n) => tmS_bp hR hI hxn hi hk (by omega))
      have HEB := hid (fun (i j : Nat) (hi : i < n) (hj : j < n) => show I64 (ent n l i j) from by have := ent_fit hR hi hj; unfold I64; omega)
      have HI64 := hid hI
      have hn8 : n ≤ 8 := by omega
      clear e e2 hR hc hl hN hI hn0 htri n8
      go_enter Tryz.func87, Tryz.ntmps87
      go_wp2_with (first
        | ((with_reducible apply ldM_P); exact rfl; exact rfl; exact hB; exact rfl)
        | (go_at_call 17; (with_reducible refine (HR.out _ hU).mono ?_); rintro r w1 ⟨rfl, hu1⟩; replace hB := hB.up hu1; replace hU := hU.trans hu1; have hc0 := hB.cell 0 rfl)
        | ((with_reducible apply mkBs (n := n)); exact rfl; (focus omega); rintro w2 hO2 hu2))
      rw [← tA_zero n l x] at hO2
      obtain ⟨wS, hwS⟩ : ∃ y, w1 = y := ⟨_, rfl⟩
      rw [hwS] at hO2 hu2 hB hU ⊢
      clear hwS hc0 hu1 hW0
      obtain ⟨bO, hbO⟩ : ∃ y, wS.heap.size = y := ⟨_, rfl⟩
      rw [hbO] at hO2 ⊢
      go_loopg [7] n (fun g ti wr => ∃ i : Nat, i ≤ n ∧ n - i ≤ g ∧ ti = .int .i64 (i : Nat) ∧ OwnB wr bO (.slice (some ⟨bO, 0, none⟩) n n) (tA n l x i 0) ∧ Up wS wr)
      case atStart => exact ⟨0, Nat.zero_le _, by omega, rfl, hO2, hu2⟩
      case round =>
        clear hO2 hu2
        obtain ⟨i, hi, hig, rfl, hO, hu⟩ := hrel
        have hc0 := (hB.up hu).cell 0 rfl
        by_cases hlt : i < n
        · have e1 : IntKind.i64.wrap ((i : Int) + 1) = (i : Int) + 1 := IntWalk.i64_in _ (by omega)
          go_wp2_with fail
          go_loopg [8] n (fun g tj wr => ∃ j : Nat, j ≤ n ∧ n - j ≤ g ∧ tj = .int .i64 (j : Nat) ∧ OwnB wr bO (.slice (some ⟨bO, 0, none⟩) n n) (tA n l x i j) ∧ Up wS wr)
          case atStart => exact ⟨0, Nat.zero_le _, by omega, rfl, hO, hu⟩
          case round =>
            clear hO hu hc0
            obtain ⟨j, hj, hjg, rfl, hO, hu⟩ := hrel
            have hBr := hB.up hu
            have hc0 := hBr.cell 0 rfl
            by_cases hjlt : j < n
            · have e2 : IntKind.i64.wrap ((j : Int) + 1) = (j : Int) + 1 := IntWalk.i64_in _ (by omega)
              have hjx : j < x.length := by omega
              obtain ⟨q', cq', xq, _, hcq⟩ := HH.out
              injection xq with y1 y2 y3
              subst y1 y3
              obtain ⟨adx, rfl, -⟩ := hcq j hjx
              have HAd := hid (fun w' (hu : Up w w') => (show w'.cell? (adx.add j) = some (.int .i64 (zth x j)) from by obtain ⟨a2, z1, z2⟩ := hcq j hjx; injection z1 with z1; subst z1; exact hu.cellEq z2))
              have hlA := tA_len n l x i j
              obtain ⟨g, cp, C, hv, hbg, hBC, -, -, -, hE⟩ := hO.open (by omega)
              injection hv with x1 x2 x3
              injection x1 with x1
              injection x1 with x1
              subst x1
              obtain ⟨b0, p0, m0, c0, h1, h2, h3⟩ := hE i (by omega)
              rw [tA_at n l x j hlt] at h3
              have HRg := hid (fun w' (hB : Blk w' bO 46 C) => bigAt_range hB h1 h2)
              have hS1 := HS.out i j hlt hj
              have hS2 := HS.out i (j + 1) hlt hjlt
              have hei := HEB.out i j hlt hjlt
              have hxj := HI64.out j hjx
              have hpb : (ent n l i j * zth x j).natAbs < bp 2 := mul_bp1 (i64_bp hei) (i64_bp hxj)
              have HATi := hid (HAT.out i j hlt hjlt)
              have HO1 := hid (fun w => of_big (ent n l i j) hei.1 hei.2 w)
              have HO2 := hid (fun w => of_big (zth x j) hxj.1 hxj.2 w)
              have HM := hid (fun (va vb : Value) (w : World) (ha : Big w va (ent n l i j)) (hb : Big w vb (zth x j)) => mul_big ha hb (nl_bp (by omega) (i64_bp hei)) (nl_bp (by omega) (i64_bp hxj)))
              have HA := hid (fun (va vb : Value) (w : World) (ha : Big w va (tmS n l x i j)) (hb : Big w vb (ent n l i j * zth x j)) => add_big ha hb (nl_bp (by omega) hS1) (nl_bp (by omega) hpb))
              have HSet := hid (tA_set n l x j (j + 1) hlt)
              clear hcq hE h1 h2 hS1 hS2 hei hxj hpb y2 x2 x3
              obtain ⟨S2, hS29⟩ : ∃ y, tmS n l x i (j + 1) = y := ⟨_, rfl⟩
              have hS28 : tmS n l x i j + ent n l i j * zth x j = S2 := hS29
              have HS2 := hid hS29
              rw [hS28] at HA
              rw [hS29] at HSet
              clear hS29 hS28
              generalize tmS n l x i j = S1 at *
              obtain ⟨eij, heij⟩ : ∃ y, ent n l i j = y := ⟨_, rfl⟩
              rw [heij] at HATi HO1 HM HA
              clear heij
              generalize zth x j = xj at *
              go_wp2_with fail
              refine wp_region_sp (n := 54) 19 [34, 35, 36, 37, 38, 39, 40, 41, 42, 43, 44, 45, 46, 47, 48, 49, 50, 51, 52] [SP.is (.slice (some ⟨bO, 0, none⟩) n n), SP.is (.int .i64 (i : Nat)), SP.is (.slice (some ⟨bO, 0, none⟩) n n), SP.is (.int .i64 (i : Nat)), SP.is (.pointer (some ⟨bO, i * 2, none⟩)), SP.is (.agg #[.bool b0, .slice p0 m0 c0]), SP.is (.agg #[.int .i64 (n : Nat), .slice p l.length cap]), SP.is (.int .i64 (i : Nat)), SP.is (.int .i64 (j : Nat)), SP.is (.int .i64 eij), SP.of (fun v w1 => Big w1 v eij) (fun _ _ _ h hu => h.up hu), SP.is (.slice (some adx) x.length cq), SP.is (.int .i64 (j : Nat)), SP.is (.pointer (some (adx.add j))), SP.is (.int .i64 xj), SP.of (fun v w1 => Big w1 v xj) (fun _ _ _ h hu => h.up hu), SP.of (fun v w1 => Big w1 v (eij * xj)) (fun _ _ _ h hu => h.up hu), SP.of (fun v w1 => Big w1 v S2) (fun _ _ _ h hu => h.up hu), SP.is (.pointer (some ⟨bO, i * 2, none⟩)), SP.any] (fun wq => Up wr wq ∧ Below w.heap.size w wq) (by kernel_rfl) (by rfl) (by kernel_rfl) (by kernel_rfl) (fun _ _ h hu => ⟨(h.1).trans hu, below_up (h.2) hu⟩) ⟨(by first | exact Up.refl _ | assumption), gUp⟩ (fun ev w9 hS9 i o hne hi hev => ?_) (fun gR wE hq hSE huE => ?_)
              · have ⟨hS1, hSB⟩ := hS9
                have hcC := hev.const
                have hcF := hev.func
                have hcG := hev.global
                rcases i with _ | _ | _ | _ | _ | _ | _ | _ | _ | _ | _ | _ | _ | _ | _ | _ | _ | _ | _ | _ | i
                · obtain rfl := Option.some.inj (show some _ = some o from hi)
                  have e6 := hev.other 6 (by kernel_rfl)
                  simp [Act.eval] at e6
                  exact leavesR_value (u := .slice (some ⟨bO, 0, none⟩) n n) (by first | (go_simp; done) | (go_simp; exact rfl)) rfl
                · obtain rfl := Option.some.inj (show some _ = some o from hi)
                  have e7 := hev.other 7 (by kernel_rfl)
                  simp [Act.eval] at e7
                  exact leavesR_value (u := .int .i64 (i : Nat)) (by first | (go_simp; done) | (go_simp; exact rfl)) rfl
                · obtain rfl := Option.some.inj (show some _ = some o from hi)
                  have e6 := hev.other 6 (by kernel_rfl)
                  simp [Act.eval] at e6
                  exact leavesR_value (u := .slice (some ⟨bO, 0, none⟩) n n) (by first | (go_simp; done) | (go_simp; exact rfl)) rfl
                · obtain rfl := Option.some.inj (show some _ = some o from hi)
                  have e7 := hev.other 7 (by kernel_rfl)
                  simp [Act.eval] at e7
                  exact leavesR_value (u := .int .i64 (i : Nat)) (by first | (go_simp; done) | (go_simp; exact rfl)) rfl
                · obtain rfl := Option.some.inj (show some _ = some o from hi)
                  have e36 : ev (.tmp 36) = (.slice (some ⟨bO, 0, none⟩) n n) := hev.dep 2 36 (by kernel_rfl)
                  have e37 : ev (.tmp 37) = (.int .i64 (i : Nat)) := hev.dep 3 37 (by kernel_rfl)
                  exact leavesR_value (u := .pointer (some ⟨bO, i * 2, none⟩)) (by first | (go_simp; done) | (go_simp; exact rfl)) rfl
                · obtain rfl := Option.some.inj (show some _ = some o from hi)
                  have e38 : ev (.tmp 38) = (.pointer (some ⟨bO, i * 2, none⟩)) := hev.dep 4 38 (by kernel_rfl)
                  exact leavesR_value (run_ldB2 rfl e38 (HRg.out _ (hBC.up hS1))) rfl
                · obtain rfl := Option.some.inj (show some _ = some o from hi)
                  have e2 := hev.other 2 (by kernel_rfl)
                  simp [Act.eval] at e2
                  exact leavesR_value (run_ldME rfl e2 (hBr.up hS1) rfl) rfl
                · obtain rfl := Option.some.inj (show some _ = some o from hi)
                  have e7 := hev.other 7 (by kernel_rfl)
                  simp [Act.eval] at e7
                  exact leavesR_value (u := .int .i64 (i : Nat)) (by first | (go_simp; done) | (go_simp; exact rfl)) rfl
                · obtain rfl := Option.some.inj (show some _ = some o from hi)
                  have e8 := hev.other 8 (by kernel_rfl)
                  simp [Act.eval] at e8
                  exact leavesR_value (u := .int .i64 (j : Nat)) (by first | (go_simp; done) | (go_simp; exact rfl)) rfl
                · obtain rfl := Option.some.inj (show some _ = some o from hi)
                  have e40 : ev (.tmp 40) = (.agg #[.int .i64 (n : Nat), .slice p l.length cap]) := hev.dep 6 40 (by kernel_rfl)
                  have e41 : ev (.tmp 41) = (.int .i64 (i : Nat)) := hev.dep 7 41 (by kernel_rfl)
                  have e42 : ev (.tmp 42) = (.int .i64 (j : Nat)) := hev.dep 8 42 (by kernel_rfl)
                  refine leavesR_call ?_ ((HATi.out _ (hU.trans (hu.trans hS1))).mono fun _ _ h => ⟨h.2, _, h.1, rfl⟩)
                  go_simp
                · obtain rfl := Option.some.inj (show some _ = some o from hi)
                  have e43 : ev (.tmp 43) = (.int .i64 eij) := hev.dep 9 43 (by kernel_rfl)
                  refine leavesR_call ?_ (HO1.out _)
                  go_simp
                · obtain rfl := Option.some.inj (show some _ = some o from hi)
                  have e1 := hev.other 1 (by kernel_rfl)
                  simp [Act.eval] at e1
                  exact leavesR_value (u := .slice (some adx) x.length cq) (by first | (go_simp; done) | (go_simp; exact rfl)) rfl
                · obtain rfl := Option.some.inj (show some _ = some o from hi)
                  have e8 := hev.other 8 (by kernel_rfl)
                  simp [Act.eval] at e8
                  exact leavesR_value (u := .int .i64 (j : Nat)) (by first | (go_simp; done) | (go_simp; exact rfl)) rfl
                · obtain rfl := Option.some.inj (show some _ = some o from hi)
                  have e45 : ev (.tmp 45) = (.slice (some adx) x.length cq) := hev.dep 11 45 (by kernel_rfl)
                  have e46 : ev (.tmp 46) = (.int .i64 (j : Nat)) := hev.dep 12 46 (by kernel_rfl)
                  exact leavesR_value (u := .pointer (some (adx.add j))) (by first | (go_simp; done) | (go_simp; exact rfl)) rfl
                · obtain rfl := Option.some.inj (show some _ = some o from hi)
                  have e47 : ev (.tmp 47) = (.pointer (some (adx.add j))) := hev.dep 13 47 (by kernel_rfl)
                  have hcx := HAd.out w9 (hU.trans (hu.trans hS1)); exact leavesR_value (u := .int .i64 xj) (by go_simp) rfl
                · obtain rfl := Option.some.inj (show some _ = some o from hi)
                  have e48 : ev (.tmp 48) = (.int .i64 xj) := hev.dep 14 48 (by kernel_rfl)
                  refine leavesR_call ?_ (HO2.out _)
                  go_simp
                · obtain rfl := Option.some.inj (show some _ = some o from hi)
                  have e44 : (fun v w1 => Big w1 v eij) (ev (.tmp 44)) w9 := hev.dep 10 44 (by kernel_rfl)
                  dsimp only at e44
                  obtain ⟨v44, hv44⟩ : ∃ v, ev (.tmp 44) = v := ⟨_, rfl⟩
                  rw [hv44] at e44
                  have e49 : (fun v w1 => Big w1 v xj) (ev (.tmp 49)) w9 := hev.dep 15 49 (by kernel_rfl)
                  dsimp only at e49
                  obtain ⟨v49, hv49⟩ : ∃ v, ev (.tmp 49) = v := ⟨_, rfl⟩
                  rw [hv49] at e49
                  refine leavesR_call ?_ (HM.out _ _ _ e44 e49)
                  go_simp
                · obtain rfl := Option.some.inj (show some _ = some o from hi)
                  have e39 : ev (.tmp 39) = (.agg #[.bool b0, .slice p0 m0 c0]) := hev.dep 5 39 (by kernel_rfl)
                  have e50 : (fun v w1 => Big w1 v (eij * xj)) (ev (.tmp 50)) w9 := hev.dep 16 50 (by kernel_rfl)
                  dsimp only at e50
                  obtain ⟨v50, hv50⟩ : ∃ v, ev (.tmp 50) = v := ⟨_, rfl⟩
                  rw [hv50] at e50
                  refine leavesR_call ?_ (HA.out _ _ _ (h3.up hS1) e50)
                  go_simp
                · obtain rfl := Option.some.inj (show some _ = some o from hi)
                  have e34 : ev (.tmp 34) = (.slice (some ⟨bO, 0, none⟩) n n) := hev.dep 0 34 (by kernel_rfl)
                  have e35 : ev (.tmp 35) = (.int .i64 (i : Nat)) := hev.dep 1 35 (by kernel_rfl)
                  exact leavesR_value (u := .pointer (some ⟨bO, i * 2, none⟩)) (by first | (go_simp; done) | (go_simp; exact rfl)) rfl
                · exact absurd rfl hne
                · exact absurd (show i + 20 < 20 from (Array.getElem?_eq_some_iff.1 hi).1) (by omega)
              have ⟨hS1, hSB⟩ := hSE
              have q0 : gR 34 = (.slice (some ⟨bO, 0, none⟩) n n) := hq 0 34 (by decide) (by kernel_rfl)
              have q1 : gR 35 = (.int .i64 (i : Nat)) := hq 1 35 (by decide) (by kernel_rfl)
              have q2 : gR 36 = (.slice (some ⟨bO, 0, none⟩) n n) := hq 2 36 (by decide) (by kernel_rfl)
              have q3 : gR 37 = (.int .i64 (i : Nat)) := hq 3 37 (by decide) (by kernel_rfl)
              have q4 : gR 38 = (.pointer (some ⟨bO, i * 2, none⟩)) := hq 4 38 (by decide) (by kernel_rfl)
              have q5 : gR 39 = (.agg #[.bool b0, .slice p0 m0 c0]) := hq 5 39 (by decide) (by kernel_rfl)
              have q6 : gR 40 = (.agg #[.int .i64 (n : Nat), .slice p l.length cap]) := hq 6 40 (by decide) (by kernel_rfl)
              have q7 : gR 41 = (.int .i64 (i : Nat)) := hq 7 41 (by decide) (by kernel_rfl)
              have q8 : gR 42 = (.int .i64 (j : Nat)) := hq 8 42 (by decide) (by kernel_rfl)
              have q9 : gR 43 = (.int .i64 eij) := hq 9 43 (by decide) (by kernel_rfl)
              have q10 : (fun v w1 => Big w1 v eij) (gR 44) wE := hq 10 44 (by decide) (by kernel_rfl)
              dsimp only at q10
              obtain ⟨v44, hv44⟩ : ∃ v, gR 44 = v := ⟨_, rfl⟩
              rw [hv44] at q10
              have q11 : gR 45 = (.slice (some adx) x.length cq) := hq 11 45 (by decide) (by kernel_rfl)
              have q12 : gR 46 = (.int .i64 (j : Nat)) := hq 12 46 (by decide) (by kernel_rfl)
              have q13 : gR 47 = (.pointer (some (adx.add j))) := hq 13 47 (by decide) (by kernel_rfl)
              have q14 : gR 48 = (.int .i64 xj) := hq 14 48 (by decide) (by kernel_rfl)
              have q15 : (fun v w1 => Big w1 v xj) (gR 49) wE := hq 15 49 (by decide) (by kernel_rfl)
              dsimp only at q15
              obtain ⟨v49, hv49⟩ : ∃ v, gR 49 = v := ⟨_, rfl⟩
              rw [hv49] at q15
              have q16 : (fun v w1 => Big w1 v (eij * xj)) (gR 50) wE := hq 16 50 (by decide) (by kernel_rfl)
              dsimp only at q16
              obtain ⟨v50, hv50⟩ : ∃ v, gR 50 = v := ⟨_, rfl⟩
              rw [hv50] at q16
              have q17 : (fun v w1 => Big w1 v S2) (gR 51) wE := hq 17 51 (by decide) (by kernel_rfl)
              dsimp only at q17
              obtain ⟨v51, hv51⟩ : ∃ v, gR 51 = v := ⟨_, rfl⟩
              rw [hv51] at q17
              have q18 : gR 52 = (.pointer (some ⟨bO, i * 2, none⟩)) := hq 18 52 (by decide) (by kernel_rfl)
              refine ⟨fun h => absurd h (by decide), fun o ho => ?_⟩
              obtain rfl := Option.some.inj (show some _ = some o from ho)
              simp only [putL, List.map_cons, List.map_nil, q0, q1, q2, q3, q4, q5, q6, q7, q8, q9, hv44, q11, q12, q13, q14, hv49, hv50, hv51, q18, Act.put, pu1, pu2, pu3]
              clear hq hSE q0 q1 q2 q3 q4 q5 q6 q7 q8 q9 q11 q12 q13 q14 q18
              obtain ⟨bb, ba, bn, bc, rfl⟩ := q17.shape
              have hset := (hO.up hS1).set (hBC.up hS1) (i := i) (by rw [tA_len]; exact hlt) q17
              rw [HSet.out] at hset
              refine wp_stB2 _ _ rfl rfl rfl (hBC.up hS1) hset.2 ?_
              have hU9 := below_setRow (hu.trans hS1) (show wS.heap.size ≤ bO by omega) (splB C (i * 2) [.bool bb, .slice ba bn bc])
              obtain ⟨wK, hwK⟩ : ∃ y, wE.setRow bO (splB C (i * 2) [.bool bb, .slice ba bn bc]) = y := ⟨_, rfl⟩
              have hO9 := hset.1
              rw [hwK] at hO9 hU9 ⊢
              clear hwK hset q17 q16 q15 q10 hS1 hSB huE
              go_wp2_with fail
              go_roundg (n - (j + 1))
              case measure => omega
              case rel => exact ⟨j + 1, hjlt, Nat.le_refl _, rfl, hO9, hU9⟩
            · obtain rfl : j = n := by omega
              rw [tA_row] at hO
              go_wp2_with fail
              go_roundg (j - (i + 1))
              case measure => omega
              case rel => exact ⟨i + 1, hlt, Nat.le_refl _, rfl, hO, hu⟩
        · obtain rfl : i = n := by omega
          rw [tA_all] at hO
          go_wp2_with fail
          go_ret2
          exact ⟨_, rfl, hU.trans hu, hO.bv⟩
    · have e : tmC N l x = 23 := by unfold tmC; rw [hR, decide_eq_false hn0]; rfl
      have e2 : tmR N l x = [] := by unfold tmR; rw [e]; rfl
      rw [e, e2]
      have d3 : ((x.length : Int) != N) = true := by simpa using hn0
      clear e e2 hR hc hl hN hI hn0
      go_enter Tryz.func87, Tryz.ntmps87
      go_wp2_with (first
        | ((with_reducible apply ldM_P); exact rfl; exact rfl; exact hB; exact rfl)
        | (go_at_call 17; (with_reducible refine (HR.out _ hU).mono ?_); rintro r w1 ⟨rfl, hu1⟩; replace hB := hB.up hu1; have hc0 := hB.cell 0 rfl))
      go_ret2
      exact ⟨_, rfl, hU.trans hu1, bv_nil _⟩
def MV (w : World) (v : Value) : Prop := ∃ N L, SmO w v N L
theorem MV.up {w w' : World} (hu : Up w w') {v : Value} (h : MV w v) : MV w' v := by obtain ⟨N, L, h⟩ := h; exact ⟨N, L, h.up hu⟩
def Pair (a0 : Int) (s0 : Value) (w : World) (v : Value) : Prop :=
  ∃ g N1 s1 L1, v = .slice (some ⟨g, 0, none⟩) 2 2 ∧ Blk w g 24 #[.int .i64 a0, s0, .int .i64 N1, s1] ∧ SmO w (.agg #[.int .i64 N1, s1]) N1 L1
theorem Pair.up {a0 : Int} {s0 : Value} {w w' : World} (hu : Up w w') {v : Value} (h : Pair a0 s0 w v) : Pair a0 s0 w' v := by
  obtain ⟨g, N1, s1, L1, h1, h2, h3⟩ := h
  exact ⟨g, N1, s1, L1, h1, h2.up hu, h3.up hu⟩
def IsRowX (k : IntKind) (w : World) (a : Option Addr) (len cap : Nat) (zs : List Int) : Prop :=
  (a = none ∧ len = 0 ∧ cap = 0 ∧ zs = []) ∨
  ∃ x, a = some x ∧ len ≤ cap ∧ cap ≤ maxLen ∧ zs.length = cap ∧ (∀ i, i < zs.length → w.cell? (x.add i) = some (.int k (zs.getD i 0))) ∧ ∀ n ∈ zs, (Lit.int k n).wf = true
theorem zth_take {l : List Int} {k i : Nat} (h : i < k) : zth (l.take k) i = zth l i := by
  unfold zth
  rw [List.getD_eq_getElem?_getD, List.getD_eq_getElem?_getD, List.getElem?_take_of_lt h]
theorem wf_i64 {z : Int} (h : (Lit.int .i64 z).wf = true) : I64 z := by
  have := (Lit.wf_int_iff .i64 z).1 h
  rw [IntKind.min_i64, IntKind.max_i64] at this
  unfold I64; omega
theorem wf_nat {k : IntKind} {z : Int} {m : Nat} (h : (Lit.int k z).wf = true) (h0 : k.min = 0) (h1 : k.max = (m : Int)) : ∃ n : Nat, z = (n : Int) ∧ n < m + 1 := by
  have := (Lit.wf_int_iff k z).1 h
  rw [h0, h1] at this
  exact ⟨z.toNat, by omega, by omega⟩
theorem vw_row {w : World} {a : Option Addr} {len cap : Nat} {zs : List Int} (h : IsRowX .i64 w a len cap zs) : Vw w (.slice a len cap) (zs.take len) ∧ In64 (zs.take len) := by
  rcases h with ⟨rfl, rfl, rfl, rfl⟩ | ⟨x, rfl, hl, hm, hz, hc, hw⟩
  · exact ⟨⟨none, 0, rfl, ⟨Nat.le_refl _, fun _ => rfl⟩, fun i hi => absurd hi (Nat.not_lt_zero _)⟩, fun i hi => absurd hi (Nat.not_lt_zero _)⟩
  · have e : (zs.take len).length = len := by rw [List.length_take]; omega
    refine ⟨⟨some x, cap, by rw [e], ⟨by rw [e]; exact hl, fun e => by cases e⟩, fun i hi => ⟨x, rfl, ?_⟩⟩, fun i hi => ?_⟩
    · rw [e] at hi
      rw [zth_take hi]
      exact hc i (by omega)
    · rw [e] at hi
      rw [zth_take hi, zth_get (by omega)]
      exact wf_i64 (hw _ (List.getElem_mem _))
theorem vh_row {w : World} {a : Option Addr} {len cap : Nat} {zs : List Int} (h : IsRowX .i16 w a len cap zs) : Vh w (.slice a len cap) (zs.take len) ∧ In16 (zs.take len) := by
  rcases h with ⟨rfl, rfl, rfl, rfl⟩ | ⟨x, rfl, hl, hm, hz, hc, hw⟩
  · exact ⟨⟨none, 0, rfl, fun i hi => absurd hi (Nat.not_lt_zero _)⟩, fun i hi => absurd hi (Nat.not_lt_zero _)⟩
  · have e : (zs.take len).length = len := by rw [List.length_take]; omega
    refine ⟨⟨some x, cap, by rw [e], fun i hi => ⟨x, rfl, ?_⟩⟩, fun i hi => ?_⟩
    · rw [e] at hi
      rw [zth_take hi]
      exact hc i (by omega)
    · rw [e] at hi
      rw [zth_take hi, zth_get (by omega)]
      have := (Lit.wf_int_iff .i16 _).1 (hw (zs[i]'(by omega)) (List.getElem_mem _))
      rw [IntKind.min_i16, IntKind.max_i16] at this
      omega
end Go.Proofs.YtjoenldfjggciaaGreatDoor
namespace Go.Proofs.YtjoenldfjggciaaGreatDoor
open Go.ChangeShapes Go.WideShapes Go.RowKit
set_option maxRecDepth 100000
theorem own4 : ownKnob Tryz.prog.godebug = none := by kernel_rfl
theorem et4 : Tryz.prog.globalNamed "errors.errorType" = some 0 := by kernel_rfl
theorem rt4 : (Tryz.prog.cutTypes.find? (·.1 == "internal/reflectlite.rtype")).map (·.2) = some 198 := by kernel_rfl
theorem oneRow4 : ((List.range 250).filter fun t => Tryz.prog.rowNamed t [101, 114, 114, 111, 114]) = [35] := by kernel_rfl
theorem size4 : Tryz.prog.types.size = 250 := by kernel_rfl
theorem glob_of_laid {W : World} (h : laidMetH Tryz.prog [("errors.errorType", Rows.laid_errors_errorType)] W) : Glob W := by
  have h' : laidMet Tryz.prog [] W ∧ handlesMet Tryz.prog [("errors.errorType", Rows.laid_errors_errorType)] W := h
  obtain ⟨name, u, ty, e1, e2, e3, e4, e5⟩ := h'.2 _ (List.mem_singleton.2 rfl)
  have en : name = [101, 114, 114, 111, 114] := (Option.some.inj e1).symm
  subst en
  obtain rfl := Option.some.inj (rt4.symm.trans e2)
  have hm : ty ∈ (List.range 250).filter fun t => Tryz.prog.rowNamed t [101, 114, 114, 111, 114] := List.mem_filter.2 ⟨List.mem_range.2 (by rw [← size4]; exact e3), e4⟩
  rw [oneRow4] at hm
  obtain rfl := List.mem_singleton.1 hm
  have hh : typeHandle Tryz.prog 35 = .pointer (some ⟨3, 35, none⟩) := by kernel_rfl
  rw [hh] at e5
  unfold Glob
  simpa using World.var?_cell et4 e5 0
noncomputable def laidWorld (os : Os) : World :=
  let w0 := World.holding Tryz.prog os ⟨#[], #[], []⟩
  { w0 with heap := w0.heap.modify 0 fun
      | .cells _ t frozen => .cells #[.iface 198 (.agg #[.pointer (some ⟨3, 35, none⟩)])] t frozen
      | o => o }
theorem laidWorld_met (os : Os) (args : Array Value) : laidMetH Tryz.prog [("errors.errorType", Rows.laid_errors_errorType)] ((laidWorld os).forCall (fun _ _ => 0) ⟨#[], args, []⟩).memory :=
  laidMetH_of_parts (laidMet_nil _ _) (by kernel_rfl)
end Go.Proofs.YtjoenldfjggciaaGreatDoor
