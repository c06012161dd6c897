/-
  A region that draws its order, where operations may make memory: whatever comes up, the world only grows, and what stood there stands.
  An operation that yields one value in every world that meets a condition S (which growing keeps) may be taken first, also if it lets the world grow: a call of a Go function that makes memory of its own.
-/
import Derived.OrdersHeld
import Derived.Below
import Derived.Laws.Rows
import Derived.Laws.Tables
namespace Go.Proofs.Ytmpikkhfeogdcaa
open Go Go.RowKit
set_option maxRecDepth 100000

theorem pu1 {α : Type} (l : List α) (i : Nat) (a : α) : l.toArray.setIfInBounds i a = (l.set i a).toArray := List.setIfInBounds_toArray l i a
theorem pu2 {α : Type} (a b : α) (l : List α) : (a :: l).set 0 b = b :: l := List.set_cons_zero
theorem pu3 {α : Type} (a b : α) (l : List α) (n : Nat) : (a :: l).set (n + 1) b = a :: l.set n b := List.set_cons_succ

/-- The world has grown: all that stood there stands. -/
def Up (w w' : World) : Prop := Below w.heap.size w w'
theorem Up.refl (w : World) : Up w w := Below.refl _ _
theorem Up.trans {a b c : World} (h : Up a b) (k : Up b c) : Up a c := Below.trans h (Below.mono k h.size)
theorem Up.drew (w : World) : Up w w.drew := (Below.refl _ _).drew
theorem Up.alloc (w : World) (o : Obj) : Up w (w.alloc o) := (Below.refl _ _).alloc (Nat.le_refl _) _
theorem Up.row {w w' : World} (h : Up w w') {b : Nat} {o : Obj} (hb : w.heap[b]? = some o) : w'.heap[b]? = some o := by
  rw [h.block b (Array.getElem?_eq_some_iff.1 hb).1]; exact hb
theorem Up.cell {w w' : World} (h : Up w w') {p : Addr} {v : Value} (hc : w.cell? p = some v) : w'.cell? p = some v := by
  rw [Below.cell h (World.block_lt_of_cell? w p hc)]; exact hc
theorem Up.below {B : Nat} {a w w' : World} (h : Up w w') (hb : Below B a w) (hB : B ≤ w.heap.size) : Below B a w' := Below.trans hb (Below.mono h hB)

section
variable {P : Program} {ops : Array Oper} {Q : Exit → Act → World → Prop} {md : Region.Mode} {S : World → Prop} {req : Nat → Bool}

/-- What an operation's run leaves: the value v, in a world that has grown; or a call that leaves that. -/
def LeavesU (P : Program) (v : Value) (w : World) : Result Next → Prop
  | .ok (.value u) w' => u = v ∧ Up w w'
  | .ok (.enter f args) w' => Up w w' ∧ Calls P f args w' fun e w'' => e = .returned v ∧ Up w' w''
  | _ => False

/-- In state 'a', in every world that meets S, the operation leaves v, and the world has grown. -/
def YieldsU (P : Program) (ops : Array Oper) (S : World → Prop) (o : Oper) (v : Value) (a : Act) : Prop :=
  (Region.wanted o (yielded ops a.tmps) = true ∧ ∀ w, S w → LeavesU P v w ((execOp a.eval o).run P w)) ∨
  (Region.wanted o (yielded ops a.tmps) = false ∧ v = undef)

theorem YieldsU.of_same {o : Oper} {v : Value} {a a' : Act} (hy : YieldsU P ops S o v a) (he : execOp a'.eval o = execOp a.eval o)
    (hw : Region.wanted o (yielded ops a'.tmps) = Region.wanted o (yielded ops a.tmps)) : YieldsU P ops S o v a' := by
  unfold YieldsU at *
  rw [he, hw]
  exact hy

theorem YieldsU.wpOp {i : Nat} {o : Oper} {v : Value} {a : Act} (hi : ops[i]? = some o) (hy : YieldsU P ops S o v a)
    {K : Act → World → Prop} {w : World} (hS : S w) (h : ∀ w', Up w w' → K (a.put o.dst v) w') : wpOp P ops Q i K a w := by
  unfold Go.wpOp
  simp only [hi]
  rcases hy with ⟨hw, hv⟩ | ⟨hw, rfl⟩
  · simp only [hw, if_true]
    refine .inl ?_
    have h1 := hv w hS
    unfold Oper.wp
    generalize (execOp a.eval o).run P w = r at *
    cases r with
    | halt x w' => exact h1.elim
    | ok n w' =>
      cases n with
      | value u => obtain ⟨rfl, hu⟩ := h1; exact h _ hu
      | enter f args =>
        obtain ⟨hu, hc⟩ := h1
        refine Calls.mono hc fun e w'' he => ?_
        obtain ⟨rfl, hu'⟩ := he
        exact h _ (hu.trans hu')
      | _ => exact h1.elim
  · simp only [hw, Bool.false_eq_true, if_false]; exact h _ (Up.refl _)

theorem wpOp_putU {j : Nat} {oi oj : Oper} {v : Value} (hj : ops[j]? = some oj) (hap : oi.apart ops oj = true)
    (hsi : ∀ cs b, oi.op ≠ .select cs b) (hsj : ∀ cs b, oj.op ≠ .select cs b)
    (hQ : ∀ c a w, Q (.panic c) (a.put oi.dst v) w → Q (.panic c) a w) {K : Act → World → Prop} {a : Act} {w : World}
    (hy : YieldsU P ops S oi v a) (h : wpOp P ops Q j K (a.put oi.dst v) w) :
    wpOp P ops Q j (fun a' w' => YieldsU P ops S oi v a' ∧ K (a'.put oi.dst v) w') a w := by
  obtain ⟨h1, h2, h3⟩ := Oper.apart_spec hap
  have keep : ∀ (a : Act), YieldsU P ops S oi v a → ∀ u, YieldsU P ops S oi v (a.put oj.dst u) := fun a hy u =>
    hy.of_same (execOp_put oi hsi a oj.dst u h3) (wanted_put oi a oj.dst u h3)
  have keepD : ∀ d, YieldsU P ops S oi v { a with defers := d :: a.defers } := fun d => hy.of_same rfl rfl
  unfold wpOp at *
  simp only [hj] at *
  rw [wanted_put oj a oi.dst v h1] at h
  split
  · rename_i hw
    simp only [hw, if_true] at h
    rcases h with h | ⟨hasks, hlets⟩
    case inr => exact .inr ⟨by unfold Oper.asks at *; rw [execOp_put oj hsj a oi.dst v h1] at hasks; exact hasks, hlets⟩
    refine .inl ?_
    unfold Oper.wp at *
    rw [execOp_put oj hsj a oi.dst v h1] at h
    generalize (execOp a.eval oj).run P w = r at *
    cases r with
    | ok n w' =>
      cases n <;> simp only [Oper.upon] at h ⊢
      case value u => exact ⟨keep a hy u, by rw [← Act.put_comm a v u h2]; exact h⟩
      case skip => exact ⟨keep a hy _, by rw [← Act.put_comm a v undef h2]; exact h⟩
      case defer d =>
        refine ⟨keep _ (keepD d) _, ?_⟩
        rw [← Act.put_comm _ v undef h2, ← Act.put_defers]
        exact h
      case enter f args =>
        refine Calls.mono h fun e w'' he => ?_
        cases e with
        | returned u => exact ⟨keep a hy u, by rw [← Act.put_comm a v u h2]; exact he⟩
        | panicked c => exact hQ _ _ _ he
        | outgrown => exact he
      case row row args => exact Rows.mono h fun u w'' he => ⟨keep a hy u, by rw [← Act.put_comm a v u h2]; exact he⟩
    | halt x w' =>
      cases x <;> simp only [Oper.upon] at h ⊢
      case panic u => exact hQ _ _ _ h
  · rename_i hw
    simp only [hw] at h
    exact ⟨keep a hy _, by rw [← Act.put_comm a v undef h2]; exact h⟩

/-- Whatever order is picked from here on, however far the world has grown between; each operation that is not marked as free keeps S. -/
def wpAnyU (P : Program) (md : Region.Mode) (ops : Array Oper) (Q : Exit → Act → World → Prop) (S : World → Prop) (req : Nat → Bool) : Nat → Array Bool → Act → World → Prop
  | 0, listed, a, w => Region.ready md ops listed = [] ∧ ∀ w', Up w w' → Q .normal a w'
  | fuel + 1, listed, a, w => ∀ w', Up w w' →
    (Region.ready md ops listed = [] → Q .normal a w') ∧
    ∀ i ∈ Region.ready md ops listed, wpOp P ops Q i (fun a' w'' => (req i = true → S w' → S w'') ∧ wpAnyU P md ops Q S req fuel (listed.setIfInBounds i true) a' w'') a w'

theorem wpAnyU_up : ∀ {fuel : Nat} {listed : Array Bool} {a : Act} {w w' : World}, Up w w' → wpAnyU P md ops Q S req fuel listed a w → wpAnyU P md ops Q S req fuel listed a w'
  | 0, _, _, _, _, hu, h => ⟨h.1, fun w'' hw => h.2 w'' (hu.trans hw)⟩
  | _ + 1, _, _, _, _, hu, h => fun w'' hw => h w'' (hu.trans hw)

theorem wpAny_of_up : ∀ (fuel : Nat) (listed : Array Bool) (a : Act) (w : World), wpAnyU P md ops Q S req fuel listed a w → wpAny P md ops Q fuel listed a w
  | 0, _, _, w, h => ⟨h.1, h.2 w (Up.refl w)⟩
  | fuel + 1, _, _, w, h => ⟨(h w (Up.refl w)).1, fun i hi => wpOp_mono (fun a' w' h' => wpAny_of_up fuel _ a' w' h'.2) ((h w (Up.refl w)).2 i hi)⟩

/-- Operation j waits for i, if need be through others. -/
def waitsU (md : Region.Mode) (ops : Array Oper) (i : Nat) : Nat → Nat → Bool
  | 0, _ => false
  | fuel + 1, j => ((ops[j]?).map fun o => o.after.any fun e => Region.binds md e && (e.on == i || waitsU md ops i fuel e.on)).getD false
def closedU (md : Region.Mode) (ops : Array Oper) (listed : Array Bool) : Prop :=
  ∀ j oj, ops[j]? = some oj → listed.getD j false = true → ∀ e ∈ oj.after, Region.binds md e = true → listed.getD e.on false = true
def closedB (md : Region.Mode) (ops : Array Oper) (listed : Array Bool) : Bool :=
  (List.range ops.size).all fun j => !listed.getD j false || ((ops[j]?).map fun o => o.after.all fun e => !Region.binds md e || listed.getD e.on false).getD true
theorem closedB_spec {listed : Array Bool} (h : closedB md ops listed = true) : closedU md ops listed := by
  intro j oj hj hl e he hb
  have hlt : j < ops.size := (Array.getElem?_eq_some_iff.1 hj).1
  have h1 := List.all_eq_true.1 h j (List.mem_range.2 hlt)
  rw [hl, hj] at h1
  simp only [Bool.not_true, Bool.false_or, Option.map_some, Option.getD_some, Array.all_eq_true_iff_forall_mem, Bool.or_eq_true, Bool.not_eq_true'] at h1
  exact (h1 e he).resolve_left (by simp [hb])
theorem closedU_set {listed : Array Bool} {j : Nat} (h : closedU md ops listed) (hj : j ∈ Region.ready md ops listed) : closedU md ops (listed.setIfInBounds j true) := by
  obtain ⟨_, o, ho, hall⟩ := mem_ready.1 hj
  intro k ok hk hl e he hb
  by_cases hjk : j = k
  · subst hjk
    have : ok = o := Option.some.inj (hk.symm.trans ho)
    subst this
    exact getD_set_true (hall e he hb)
  · rw [getD_set_ne false hjk] at hl
    exact getD_set_true (h k ok hk hl e he hb)
theorem waitsU_spec {listed : Array Bool} {i : Nat} (hc : closedU md ops listed) : ∀ (fuel j : Nat) (o : Oper), ops[j]? = some o → (∀ e ∈ o.after, Region.binds md e = true → listed.getD e.on false = true) →
    waitsU md ops i fuel j = true → listed.getD i false = true
  | 0, _, _, _, _, h => by simp [waitsU] at h
  | fuel + 1, j, o, ho, hall, h => by
    simp only [waitsU, ho, Option.map_some, Option.getD_some, Array.any_eq_true', Bool.and_eq_true, Bool.or_eq_true, beq_iff_eq] at h
    obtain ⟨e, he, hb, h1⟩ := h
    have hl := hall e he hb
    rcases h1 with h1 | h1
    · rw [← h1]; exact hl
    · cases ho' : ops[e.on]? with
      | none =>
        cases fuel with
        | zero => simp [waitsU] at h1
        | succ f => simp [waitsU, ho'] at h1
      | some o' => exact waitsU_spec hc fuel e.on o' ho' (fun e' he' hb' => hc e.on o' ho' hl e' he' hb') h1

theorem wpAnyU_first {i : Nat} {oi : Oper} {v : Value} (hi : ops[i]? = some oi) (hsel : ∀ (j : Nat) (o : Oper) cs b, ops[j]? = some o → o.op ≠ .select cs b)
    (hQ : ∀ c a w, Q (.panic c) (a.put oi.dst v) w → Q (.panic c) a w) (hSup : ∀ w w', S w → Up w w' → S w') {T : World → Prop} (hTup : ∀ w w', T w → Up w w' → T w')
    (hT : (∀ w, T w) ∨ ((∀ w, T w → S w) ∧ (∀ w, S w → T w) ∧ ∀ j oj, ops[j]? = some oj → req j = false → ∃ f, waitsU md ops i f j = true)) :
    ∀ (fuel : Nat) (listed : Array Bool) (a : Act) (w : World), closedU md ops listed →
      (∀ j oj, ops[j]? = some oj → j ≠ i → listed.getD j true = false → (∀ e ∈ oj.after, Region.binds md e = true → e.on ≠ i) → oi.apart ops oj = true) →
      i ∈ Region.ready md ops listed → YieldsU P ops T oi v a → T w →
      wpAnyU P md ops Q S req fuel (listed.setIfInBounds i true) (a.put oi.dst v) w → wpAnyU P md ops Q S req (fuel + 1) listed a w := by
  intro fuel
  induction fuel with
  | zero =>
    intro listed a w hcl _ hr hy hS H w' hw'
    refine ⟨fun h => (by rw [h] at hr; cases hr), fun j hj => ?_⟩
    by_cases hji : j = i
    · subst hji; exact hy.wpOp hi (hTup _ _ hS hw') fun w'' hu => ⟨fun _ h => hSup _ _ h hu, wpAnyU_up (hw'.trans hu) H⟩
    · have := ready_mono hj hji
      rw [H.1] at this
      cases this
  | succ fuel ih =>
    intro listed a w hcl hfree hr hy hS H w' hw'
    refine ⟨fun h => (by rw [h] at hr; cases hr), fun j hj => ?_⟩
    by_cases hji : j = i
    · subst hji; exact hy.wpOp hi (hTup _ _ hS hw') fun w'' hu => ⟨fun _ h => hSup _ _ h hu, wpAnyU_up (hw'.trans hu) H⟩
    · have h1 := (H w' hw').2 j (ready_mono hj hji)
      obtain ⟨hjun, oj, hoj, hall⟩ := mem_ready.1 hj
      have h0 := (mem_ready.1 hr).1
      have hiun : listed.getD i false = true → False := fun h1 => by
        rcases Nat.lt_or_ge i listed.size with h' | h'
        · simp [h'] at h0 h1; rw [h0] at h1; cases h1
        · simp [Array.getElem?_eq_none h'] at h1
      have hnot : ∀ e ∈ oj.after, Region.binds md e = true → e.on ≠ i := fun e he hb heq => hiun (heq ▸ hall e he hb)
      have hnext : ∀ w'', (req j = true → S w' → S w'') → T w'' := fun w'' hk => by
        rcases hT with hT | ⟨h1, h2, h3⟩
        · exact hT _
        · refine h2 _ (hk ?_ (h1 _ (hTup _ _ hS hw')))
          cases hq : req j with
          | true => rfl
          | false =>
            obtain ⟨f, hf⟩ := h3 j oj hoj hq
            exact (hiun (waitsU_spec hcl f j oj hoj hall hf)).elim
      have h2 := wpOp_putU hoj (hfree j oj hoj hji hjun hnot) (fun cs b => hsel i oi cs b hi) (fun cs b => hsel j oj cs b hoj) hQ hy h1
      have hfree' : ∀ k ok, ops[k]? = some ok → k ≠ i → (listed.setIfInBounds j true).getD k true = false →
          (∀ e ∈ ok.after, Region.binds md e = true → e.on ≠ i) → oi.apart ops ok = true := fun k ok hk hki hun hno => by
        refine hfree k ok hk hki ?_ hno
        by_cases hjk : j = k
        · subst hjk; exact hjun
        · rw [getD_set_ne true hjk] at hun; exact hun
      refine wpOp_mono (fun a' w'' h3 => ⟨h3.2.1, ih (listed.setIfInBounds j true) a' w'' (closedU_set hcl hj) hfree' (ready_mono hr (Ne.symm hji)) h3.1 (hnext _ h3.2.1) ?_⟩) h2
      rw [Array.setIfInBounds_comm _ _ hji]
      exact h3.2.2

/-! The moves of a walk. -/
def reqB (md : Region.Mode) (ops : Array Oper) (req : Nat → Bool) (i : Nat) : Bool := (List.range ops.size).all fun j => req j || waitsU md ops i ops.size j
theorem reqB_spec {i : Nat} (h : reqB md ops req i = true) : ∀ j oj, ops[j]? = some oj → req j = false → ∃ f, waitsU md ops i f j = true := fun j oj hj hq => by
  have h1 := List.all_eq_true.1 h j (List.mem_range.2 (Array.getElem?_eq_some_iff.1 hj).1)
  rw [hq, Bool.false_or] at h1
  exact ⟨_, h1⟩

/-- All that a take asks of the region's text, in one Bool. -/
def takeB (md : Region.Mode) (ops : Array Oper) (req : Nat → Bool) (listed : Array Bool) (i : Nat) : Bool :=
  Region.noSelect ops && Region.free md ops listed i && (Region.ready md ops listed).contains i && closedB md ops listed && reqB md ops req i

theorem wpAnyU_take {i : Nat} {oi : Oper} {d : Option Tmp} {v : Value} {fuel : Nat} {listed : Array Bool} {a : Act} {w : World} (hi : ops[i]? = some oi) (hd : oi.dst = d) (ht : takeB md ops req listed i = true)
    (hQ : ∀ c a w, Q (.panic c) (a.put d v) w → Q (.panic c) a w) (hSup : ∀ w w', S w → Up w w' → S w') (hS : S w) (hy : YieldsU P ops S oi v a)
    (h : wpAnyU P md ops Q S req fuel (listed.setIfInBounds i true) (a.put d v) w) : wpAnyU P md ops Q S req (fuel + 1) listed a w := by
  subst hd
  simp only [takeB, Bool.and_eq_true] at ht
  obtain ⟨⟨⟨⟨h1, h2⟩, h3⟩, h4⟩, h5⟩ := ht
  exact wpAnyU_first hi (Region.noSelect_spec h1) hQ hSup hSup (.inr ⟨fun _ h => h, fun _ h => h, reqB_spec h5⟩) fuel listed a w (closedB_spec h4) (Region.free_spec hi h2) (by simpa using h3) hy hS h

/-- The same for an operation that yields its value in whatever world. -/
def pureB (md : Region.Mode) (ops : Array Oper) (listed : Array Bool) (i : Nat) : Bool :=
  Region.noSelect ops && Region.free md ops listed i && (Region.ready md ops listed).contains i && closedB md ops listed
theorem wpAnyU_pure {i : Nat} {oi : Oper} {d : Option Tmp} {v : Value} {fuel : Nat} {listed : Array Bool} {a : Act} {w : World} (hi : ops[i]? = some oi) (hd : oi.dst = d) (ht : pureB md ops listed i = true)
    (hQ : ∀ c a w, Q (.panic c) (a.put d v) w → Q (.panic c) a w) (hSup : ∀ w w', S w → Up w w' → S w') (hy : YieldsU P ops (fun _ => True) oi v a)
    (h : wpAnyU P md ops Q S req fuel (listed.setIfInBounds i true) (a.put d v) w) : wpAnyU P md ops Q S req (fuel + 1) listed a w := by
  subst hd
  simp only [pureB, Bool.and_eq_true] at ht
  obtain ⟨⟨⟨h1, h2⟩, h3⟩, h4⟩ := ht
  exact wpAnyU_first hi (Region.noSelect_spec h1) hQ hSup (T := fun _ => True) (fun _ _ h _ => h) (.inl fun _ => trivial) fuel listed a w (closedB_spec h4) (Region.free_spec hi h2) (by simpa using h3) hy trivial h

theorem wpAnyU_all {rs : List Nat} {fuel : Nat} {listed : Array Bool} {a : Act} {w : World} (hr : Region.ready md ops listed = rs) (hne : rs ≠ [])
    (h : ∀ w', Up w w' → ∀ i ∈ rs, wpOp P ops Q i (fun a' w'' => (req i = true → S w' → S w'') ∧ wpAnyU P md ops Q S req fuel (listed.setIfInBounds i true) a' w'') a w') : wpAnyU P md ops Q S req (fuel + 1) listed a w :=
  fun w' hw' => ⟨fun h0 => absurd (hr ▸ h0) hne, hr ▸ h w' hw'⟩

theorem wpAnyU_one {i : Nat} {o : Oper} {fuel : Nat} {listed : Array Bool} {a : Act} {w : World} (hi : ops[i]? = some o) (hr : Region.ready md ops listed = [i]) (hw : Region.wanted o (yielded ops a.tmps) = true)
    (h : ∀ w', Up w w' → Oper.wp P o a w' (fun a' w'' => (req i = true → S w' → S w'') ∧ wpAnyU P md ops Q S req fuel (listed.setIfInBounds i true) a' w'') Q) : wpAnyU P md ops Q S req (fuel + 1) listed a w :=
  wpAnyU_all hr (by simp) fun w' hw' j hj => by
    obtain rfl : j = i := by simpa using hj
    unfold wpOp
    simp only [hi, hw, if_true]
    exact .inl (h w' hw')

theorem wpAnyU_done {listed : Array Bool} {a : Act} {w : World} (hr : Region.ready md ops listed = []) (h : ∀ w', Up w w' → Q .normal a w') : ∀ fuel, wpAnyU P md ops Q S req fuel listed a w
  | 0 => ⟨hr, h⟩
  | _ + 1 => fun w' hw' => ⟨fun _ => h w' hw', by rw [hr]; simp⟩

theorem wp_region_up {id : Nat} {a : Act} {w : World} (hm : P.follows .mixedOrders = true)
    (h : wpAnyU P .any ops Q S req ops.size (Array.replicate ops.size false) a w.drew) : (Code.region id ops true).wp P Q a w :=
  wp_region_any hm (wpAny_of_up _ _ _ _ h)
/-- The same from a world that is a letter, of which S is known. -/
theorem wp_region_upS {id : Nat} {a : Act} {w : World} (hm : P.follows .mixedOrders = true) (hSup : ∀ w w', S w → Up w w' → S w') (hS : S w)
    (h : ∀ w', S w' → wpAnyU P .any ops Q S req ops.size (Array.replicate ops.size false) a w') : (Code.region id ops true).wp P Q a w :=
  wp_region_up hm (h _ (hSup _ _ hS (Up.drew w)))
/-- .. and that growing keeps S is handed on. -/
theorem wp_region_upH {id : Nat} {a : Act} {w : World} (hm : P.follows .mixedOrders = true) (hSup : ∀ w w', S w → Up w w' → S w') (hS : S w)
    (h : ∀ w', S w' → Hid (∀ w w', S w → Up w w' → S w') → wpAnyU P .any ops Q S req ops.size (Array.replicate ops.size false) a w') : (Code.region id ops true).wp P Q a w :=
  wp_region_upS hm hSup hS fun w' h1 => h w' h1 hSup
theorem below_up {w w1 w2 : World} (h : Below w.heap.size w w1) (hu : Up w1 w2) : Below w.heap.size w w2 := Up.trans h hu
end
end Go.Proofs.Ytmpikkhfeogdcaa
