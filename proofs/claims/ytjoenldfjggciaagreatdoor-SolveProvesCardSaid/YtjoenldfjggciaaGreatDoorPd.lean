import Derived.Test.YtjoenldfjggciaaGreatDoorPc
import Derived.Deep.MidRow
import Derived.Laws.CopyRow
import Derived.Great.BuildSlice
import Derived.Deep.DeepCutAuto
import Derived.Deep.CutRange
import Derived.Deep.CutBlock
import Derived.BigQuiet
import Derived.Deep.QuietTactic
namespace Go.Proofs.YtjoenldfjggciaaGreatDoor
open Go Go.RowKit
set_option maxRecDepth 100000
theorem undWs : Tryz.prog.underlying 38 = some (.slice 33) := by kernel_rfl
theorem infoWs : (Tryz.prog.info? 33).map (fun i => (i.zero.map (·.cells.size), i.size, i.bytes)) = some (some 16, 16, 128) := by kernel_rfl
theorem undRs : Tryz.prog.underlying 103 = some (.slice 38) := by kernel_rfl
theorem infoRs : (Tryz.prog.info? 38).map (fun i => (i.zero, i.size, i.bytes)) = some (some (.slice none 0 0), 1, 24) := by kernel_rfl
def wc (z : Int) : List Value := (cells 16 (limb (enc z))).toList
def wcs (l : List Int) : List Value := l.flatMap wc
theorem wc_len (z : Int) : (wc z).length = 16 := by unfold wc; rw [Array.length_toList, cells_size]
theorem wc_one (z : Int) : ∀ u ∈ wc z, u.oneCell' = true := fun u hu => (Array.all_eq_true_iff_forall_mem.1 (cells_one 16 (limb (enc z)))) u (by unfold wc at hu; simpa using hu)
theorem wcs_nil : wcs [] = [] := rfl
theorem wcs_cons (z : Int) (l : List Int) : wcs (z :: l) = wc z ++ wcs l := rfl
theorem wcs_append (l m : List Int) : wcs (l ++ m) = wcs l ++ wcs m := by unfold wcs; rw [List.flatMap_append]
theorem wcs_len (l : List Int) : (wcs l).length = l.length * 16 := by
  induction l with
  | nil => rfl
  | cons z l ih => rw [wcs_cons, List.length_append, wc_len, ih, List.length_cons]; omega
theorem wcs_one {l : List Int} : ∀ u ∈ wcs l, u.oneCell' = true := fun u hu => by
  obtain ⟨z, _, h⟩ := List.mem_flatMap.1 hu
  exact wc_one z u h
theorem zth_split {l : List Int} {i : Nat} (h : i < l.length) : l = l.take i ++ zth l i :: l.drop (i + 1) := by
  rw [zth_get h, ← List.drop_eq_getElem_cons h, List.take_append_drop]
theorem wcs_take_len {l : List Int} {i : Nat} (h : i ≤ l.length) : (wcs (l.take i)).length = i * 16 := by rw [wcs_len, List.length_take]; omega
theorem wcs_split {l : List Int} {i : Nat} (h : i < l.length) : wcs l = wcs (l.take i) ++ (wc (zth l i) ++ wcs (l.drop (i + 1))) := by
  have e := congrArg wcs (zth_split h)
  rw [wcs_append, wcs_cons] at e
  exact e
theorem wcs_mid {l : List Int} {i j : Nat} (h : i < l.length) (hj : j < 16) : (wcs l)[i * 16 + j]? = (wc (zth l i))[j]? := by
  have h1 := wcs_take_len (l := l) (i := i) (by omega)
  rw [wcs_split h, List.getElem?_append_right (by omega), h1, show i * 16 + j - i * 16 = j by omega, List.getElem?_append_left (by rw [wc_len]; exact hj)]
theorem wcs_set {l : List Int} {i : Nat} (h : i < l.length) (z : Int) : (wcs l).take (i * 16) ++ wc z ++ (wcs l).drop (i * 16 + 16) = wcs (l.set i z) := by
  have h1 := wcs_take_len (l := l) (i := i) (by omega)
  rw [List.set_eq_take_append_cons_drop, if_pos h, wcs_append, wcs_cons, wcs_split h, ← h1, List.take_left' rfl, ← List.drop_drop, List.drop_left' rfl, List.drop_left' (by rw [wc_len])]
  rw [List.append_assoc]
theorem wcs_drop {l : List Int} {i : Nat} (h : i ≤ l.length) : (wcs l).drop (i * 16) = wcs (l.drop i) := by
  have h1 := wcs_take_len h
  have e := congrArg wcs (List.take_append_drop i l)
  rw [wcs_append] at e
  rw [← e, ← h1, List.drop_left' rfl]
def OwnW (w : World) (base : Nat) (v : Value) (l : List Int) : Prop := w.ownsRow base 33 16 v l.length (wcs l)
theorem OwnW.up {w w' : World} {base : Nat} {v : Value} {l : List Int} (hu : Up w w') (h : OwnW w base v l) : OwnW w' base v l := World.ownsRow.up h hu
theorem OwnW.nil (w : World) (base : Nat) : OwnW w base (.slice none 0 0) [] := World.ownsRow_nil _ _ _ _
theorem OwnW.slice {w : World} {base : Nat} {v : Value} {l : List Int} (h : OwnW w base v l) : ∃ p c, v = .slice p l.length c := by
  obtain ⟨_, ⟨rfl, h0⟩ | ⟨g, cap, cur, rfl, _⟩⟩ := h
  · exact ⟨none, 0, by rw [h0]⟩
  · exact ⟨_, cap, rfl⟩
def Wv (w : World) (v : Value) (l : List Int) : Prop :=
  (l = [] ∧ ∃ p c, v = .slice p 0 c) ∨ ∃ g cap C, v = .slice (some ⟨g, 0, none⟩) l.length cap ∧ l.length ≤ cap ∧ Blk w g 33 C ∧ C.toList.take (l.length * 16) = wcs l
theorem Wv.up {w w' : World} (hu : Up w w') {v : Value} {l : List Int} (h : Wv w v l) : Wv w' v l := by
  rcases h with h | ⟨g, cap, C, h1, h2, h3, h4⟩
  · exact .inl h
  · exact .inr ⟨g, cap, C, h1, h2, h3.up hu, h4⟩
theorem OwnW.wv {w : World} {base : Nat} {v : Value} {l : List Int} (h : OwnW w base v l) : Wv w v l := by
  obtain ⟨_, ⟨rfl, h0⟩ | ⟨g, cap, cur, rfl, _, hB, hc, _, _, ht⟩⟩ := h
  · exact .inl ⟨List.length_eq_zero_iff.1 h0, _, _, rfl⟩
  · exact .inr ⟨g, cap, cur, rfl, hc, hB, ht⟩
theorem Wv.slice {w : World} {v : Value} {l : List Int} (h : Wv w v l) : ∃ p c, v = .slice p l.length c := by
  rcases h with ⟨rfl, p, c, rfl⟩ | ⟨g, cap, C, rfl, _⟩
  · exact ⟨p, c, rfl⟩
  · exact ⟨_, cap, rfl⟩
theorem Wv.open {w : World} {v : Value} {l : List Int} (h : Wv w v l) (h0 : 0 < l.length) :
    ∃ g cap C, v = .slice (some ⟨g, 0, none⟩) l.length cap ∧ l.length ≤ cap ∧ Blk w g 33 C ∧ C.toList.take (l.length * 16) = wcs l := by
  rcases h with ⟨rfl, _⟩ | h
  · exact absurd h0 (by decide)
  · exact h
theorem wv_range {w : World} {g : Nat} {C : Array Value} {l : List Int} (hB : Blk w g 33 C) (ht : C.toList.take (l.length * 16) = wcs l) {i : Nat} (hi : i < l.length) : w.rangeAt g (i * 16) (wc (zth l i)) := by
  intro j v hv
  have hj : j < 16 := by have := (List.getElem?_eq_some_iff.1 hv).1; rw [wc_len] at this; exact this
  refine hB.cell _ ?_
  rw [← Array.getElem?_toList, ← List.getElem?_take_of_lt (show i * 16 + j < l.length * 16 by omega), ht, wcs_mid hi hj]
  exact hv
section
variable {a : Act} {w : World} {g off : Nat} {z : Int}
theorem run_ldW {o : Oper} {ev : Operand → Value} {x : Operand} (ho : o.op = .load 33 x) (hx : ev x = .pointer (some ⟨g, off, none⟩)) (hC : w.rangeAt g off (wc z)) :
    (execOp ev o).run Tryz.prog w = .ok (.value (.agg (cells 16 (limb (enc z))))) w := by
  unfold execOp
  simp only [ho, hx, Instr.loadAt, Instr.sureAddr, Sem.run_bind, Sem.run_pure, Result.andThen_ok, run_loadVar_mid w g off _ (wc z) _ hC undW rfl (by rw [infoW, wc_len])]
  unfold wc
  simp
theorem ldW_P {ops : Array Oper} {rest : List Oper} {Q : Exit → Act → World → Prop} {d : Option Tmp} {s : Tmp} {ty : TypeId} {pos : String} {af : Array Edge} {gd : Option (Nat × Bool)} (hw : Region.wanted { dst := d, op := .load 33 (.tmp s), type := ty, pos := pos, after := af, guard := gd } (yielded ops a.tmps) = true) (hx : a.eval (.tmp s) = .pointer (some ⟨g, off, none⟩))
    (hC : w.rangeAt g off (wc z)) (h : wpList Tryz.prog ops Q rest (a.put d (.agg (cells 16 (limb (enc z))))) w) : wpList Tryz.prog ops Q ({ dst := d, op := .load 33 (.tmp s), type := ty, pos := pos, after := af, guard := gd } :: rest) a w :=
  wpList_run hw (run_ldW rfl hx hC) h
def splW (C : Array Value) (off : Nat) (z : Int) : Array Value := (C.toList.take off ++ wc z ++ C.toList.drop (off + 16)).toArray
theorem run_svW {C : Array Value} (hB : Blk w g 33 C) (hl : off + 16 ≤ C.size) :
    (storeVar 33 ⟨g, off, none⟩ (wideV (enc z))).run Tryz.prog w = .ok () (w.setRow g (splW C off z)) := by
  have hs := run_storeCells_at Tryz.prog g off 33 (wc z) 0 C w hB (by rw [wc_len]; omega) (wc_one z)
  rw [Nat.add_zero, wc_len] at hs
  unfold splW
  have hi := infoW
  cases hq : Tryz.prog.info? 33 with
  | none => rw [hq] at hi; simp at hi
  | some i =>
    rw [hq] at hi
    have hz : i.size = 16 := by simpa using hi
    have hv : (wideV (enc z)).cells.toList = wc z := rfl
    have hn : (wideV (enc z)).cells.size = 16 := cells_size _ _
    simp [storeVar, sizeOf, typeInfo, hq, hz, hv, hn, hs]
theorem wp_stW {C : Array Value} {K : Act → World → Prop} {Q : Exit → Act → World → Prop} {o : Oper} (x y : Operand) (ho : o.op = .store 33 x y) (hx : a.eval x = .pointer (some ⟨g, off, none⟩)) (hy : a.eval y = .agg (cells 16 (limb (enc z)))) (hB : Blk w g 33 C) (hl : off + 16 ≤ C.size)
    (h : K (a.put o.dst undef) (w.setRow g (splW C off z))) : o.wp Tryz.prog a w K Q := by
  have hw := run_svW (z := z) hB hl
  unfold wideV at hw
  unfold Oper.wp execOp
  simp only [ho, hx, hy, Instr.storeAt, Instr.sureAddr, Sem.run_bind, Sem.run_pure, Result.andThen_ok, hw]
  exact h
theorem stW_P {C : Array Value} {ops : Array Oper} {rest : List Oper} {Q : Exit → Act → World → Prop} {d : Option Tmp} {s u : Tmp} {ty : TypeId} {pos : String} {af : Array Edge} (hx : a.eval (.tmp s) = .pointer (some ⟨g, off, none⟩)) (hy : a.eval (.tmp u) = .agg (cells 16 (limb (enc z)))) (hB : Blk w g 33 C) (hl : off + 16 ≤ C.size)
    (h : wpList Tryz.prog ops Q rest (a.put d undef) (w.setRow g (splW C off z))) :
    wpList Tryz.prog ops Q ({ dst := d, op := .store 33 (.tmp s) (.tmp u), type := ty, pos := pos, after := af, guard := none } :: rest) a w :=
  wpList_plain rfl fun _ hK => wp_stW _ _ rfl hx hy hB hl (hK _ _ h)
end
theorem OwnW.open {w : World} {base : Nat} {v : Value} {l : List Int} (h : OwnW w base v l) (h0 : 0 < l.length) :
    ∃ g cap C, v = .slice (some ⟨g, 0, none⟩) l.length cap ∧ base ≤ g ∧ Blk w g 33 C ∧ l.length ≤ cap ∧ cap ≤ maxLen ∧ C.size = cap * 16 ∧ C.toList.take (l.length * 16) = wcs l := by
  obtain ⟨_, h1 | ⟨g, cap, cur, hv, hb, hB, hc, hm, hs, ht⟩⟩ := h
  · omega
  · exact ⟨g, cap, cur, hv, hb, hB, hc, hm, hs, ht⟩
theorem set_take {C : List Value} {l : List Int} {i : Nat} (ht : C.take (l.length * 16) = wcs l) (hi : i < l.length) (hC : l.length * 16 ≤ C.length) (z : Int) :
    (C.take (i * 16) ++ wc z ++ C.drop (i * 16 + 16)).take (l.length * 16) = wcs (l.set i z) := by
  rw [← wcs_set hi z, ← ht, List.take_take, Nat.min_eq_left (by omega), List.drop_take]
  have h1 : (C.take (i * 16) ++ wc z).length = i * 16 + 16 := by rw [List.length_append, wc_len, List.length_take]; omega
  rw [List.take_append, h1, List.take_of_length_le (by omega)]
theorem OwnW.set {w : World} {base g cap n : Nat} {C : Array Value} {l : List Int} (h : OwnW w base (.slice (some ⟨g, 0, none⟩) n cap) l) (hB : Blk w g 33 C) {i : Nat} (hi : i < l.length) (z : Int) :
    OwnW (w.setRow g (splW C (i * 16) z)) base (.slice (some ⟨g, 0, none⟩) n cap) (l.set i z) ∧ i * 16 + 16 ≤ C.size := by
  obtain ⟨g', cap', C', hv, hb, hB', hc, hm, hs, ht⟩ := h.open (by omega)
  injection hv with e1 e2 e3
  injection e1 with e1
  injection e1 with e1
  subst e1 e2 e3
  have hCC : C' = C := by
    unfold Blk at hB hB'
    rw [hB] at hB'
    simp at hB'
    exact hB'.symm
  subst hCC
  have hl : i * 16 + 16 ≤ C'.size := by omega
  unfold splW
  refine ⟨⟨by rw [wcs_len, List.length_set], .inr ⟨g, cap, _, by rw [List.length_set], hb, hB.setRow _, by rw [List.length_set]; exact hc, hm, ?_, ?_⟩⟩, hl⟩
  · simp [wc_len]; omega
  · rw [List.length_set]
    exact set_take ht hi (by simp; omega) z
theorem appW {ops : Array Oper} {rest : List Oper} {Q : Exit → Act → World → Prop} {a : Act} {w : World} {d : Option Tmp} {s u : Operand} {ty : TypeId} {pos : String} {af : Array Edge} {base g off c : Nat} {v : Value} {l m : List Int}
    (hs : a.eval s = v) (hu : a.eval u = .slice (some ⟨g, off, none⟩) m.length c) (hown : OwnW w base v l) (hV : w.rangeAt g off (wcs m)) (hbase : base ≤ w.heap.size) (hl : l.length < 1000000) (hm : m.length < 1000000)
    (h : ∀ v' w', OwnW w' base v' (l ++ m) → w.grownBy w' v.ownBlock → Below base w w' → wpList Tryz.prog ops Q rest (a.put d v') w') :
    wpList Tryz.prog ops Q ({ dst := d, op := .call { callee := .builtin .append, args := #[s, u], argTypes := #[38, 38] }, type := ty, pos := pos, after := af, guard := none } :: rest) a w := by
  obtain ⟨i0, hi0, he⟩ := Option.map_eq_some_iff.1 infoWs
  simp only [Prod.mk.injEq] at he
  obtain ⟨z0, hz0, hzs⟩ := Option.map_eq_some_iff.1 he.1
  have hlt := World.ownsRow.lt hown
  refine wpList_append_own w rfl s u 38 rfl base 33 i0 z0 16 128 undWs hi0 hz0 he.2.1 he.2.2 hzs (by decide) v l.length (wcs l) hs hown ⟨g, off, none⟩ m.length c (wcs m) hu (wcs_len m) (fun j x hx => by rw [Addr.add_mid]; exact hV j x hx) wcs_one (by unfold maxLen; omega) (by omega) hbase ?_
  intro v' w' h1 h2 _
  refine h v' w' (by unfold OwnW; rw [List.length_append, wcs_append]; exact h1) h2 ⟨h2.os, h2.tape, h2.output, h2.size, fun k hk => h2.block k (by omega) fun e => ?_⟩
  have := hlt k e.symm
  omega
theorem one_range {w : World} {z : Int} {g : Nat} (h : g = w.heap.size) : (w.alloc (.cells (cells 16 (limb (enc z))) 33)).rangeAt g 0 (wcs [z]) := by
  intro j v hv
  have hB : Blk (w.alloc (.cells (cells 16 (limb (enc z))) 33)) g 33 (cells 16 (limb (enc z))) := Blk.new _ _ h
  rw [Nat.zero_add]
  refine hB.cell _ ?_
  rw [← Array.getElem?_toList]
  rw [show wcs [z] = wc z from by rw [wcs_cons, wcs_nil, List.append_nil]] at hv
  exact hv
theorem fill_one (f : Nat → Nat) (z : Array Value) : Instr.fill (fun i => some (i * 16, 16)) ((Array.range (1 * 16)).map (z[· % z.size]!)) [(0, .agg (cells 16 f))] = some (cells 16 f) := by
  unfold cells
  kernel_rfl
theorem bsW_P {ops : Array Oper} {rest : List Oper} {Q : Exit → Act → World → Prop} {a : Act} {w : World} {d : Option Tmp} {s : Tmp} {ty : TypeId} {pos : String} {af : Array Edge} {z : Int} (hs : a.eval (.tmp s) = .agg (cells 16 (limb (enc z))))
    (h : wpList Tryz.prog ops Q rest (a.put d (.slice (some ⟨w.heap.size, 0, none⟩) 1 1)) (w.alloc (.cells (cells 16 (limb (enc z))) 33))) :
    wpList Tryz.prog ops Q ({ dst := d, op := .buildSlice 38 1 #[(0, .tmp s)], type := ty, pos := pos, after := af, guard := none } :: rest) a w := by
  obtain ⟨i0, hi0, he⟩ := Option.map_eq_some_iff.1 infoWs
  simp only [Prod.mk.injEq] at he
  obtain ⟨z0, hz0, hzs⟩ := Option.map_eq_some_iff.1 he.1
  refine wpList_buildSlice rfl 38 33 1 _ rfl (cells 16 (limb (enc z))) i0 z0 undWs hi0 hz0 (by rw [he.2.1]; decide) (by rw [he.2.1]; decide) ?_ h
  simp only [List.map_toArray, List.map_cons, List.map_nil, hs, he.2.1]
  exact fill_one _ _
structure Near (g : Nat) (w w' : World) : Prop where
  os : w'.os = w.os
  tape : w'.tape = w.tape
  output : w'.output = w.output
  size : w.heap.size ≤ w'.heap.size
  block : ∀ k, k < w.heap.size → k ≠ g → w'.heap[k]? = w.heap[k]?
theorem Near.refl (g : Nat) (w : World) : Near g w w := ⟨rfl, rfl, rfl, Nat.le_refl _, fun _ _ _ => rfl⟩
theorem Near.trans {g : Nat} {a b c : World} (h : Near g a b) (k : Near g b c) : Near g a c :=
  ⟨k.os.trans h.os, k.tape.trans h.tape, k.output.trans h.output, Nat.le_trans h.size k.size, fun i hi hg => (k.block i (Nat.lt_of_lt_of_le hi h.size) hg).trans (h.block i hi hg)⟩
theorem Near.of {g : Nat} {a b : World} (h : Up a b) : Near g a b := ⟨h.os, h.tape, h.output, h.size, fun k hk _ => h.block k hk⟩
theorem Near.up {g : Nat} {a b c : World} (h : Near g a b) (hu : Up b c) : Near g a c := h.trans (Near.of hu)
theorem Near.cell {g i : Nat} {a w : World} (h : Near g a w) (v : Value) : Near g a (w.setCell ⟨g, i, none⟩ v) := by
  have k : Below 0 w (w.setCell ⟨g, i, none⟩ v) := (Below.refl 0 w).setCell (Nat.zero_le _) v
  exact h.trans ⟨k.os, k.tape, k.output, k.size, fun j _ hg => Below.heap_setCell w ⟨g, i, none⟩ v j hg⟩
theorem Near.row {g b n : Nat} {t : TypeId} {f : Nat → Nat} {w w' : World} (h : Near g w w') (hb : b ≠ g) (hr : Row w b t n f) : Row w' b t n f := by
  have h1 := hr.lt
  unfold Row Blk at *
  rw [h.block b h1 hb]; exact hr
theorem Near.below {g B : Nat} {a w w' : World} (h : Near g w w') (hg : B ≤ g) (hb : Below B a w) (hB : B ≤ w.heap.size) : Below B a w' :=
  Below.trans hb ⟨h.os, h.tape, h.output, h.size, fun k hk => h.block k (by omega) (by omega)⟩
theorem off_step {A L M X V l lo c c' r b b' P : Nat} (h : A + L = M + (b + c) * P) (h1 : lo + c' * 18446744073709551616 = l * V + c) (h2 : r + lo + b = X + b' * 18446744073709551616) :
    A + r * P + (L + l * V * P) = M + X * P + (b' + c') * (P * 18446744073709551616) := by
  have e : (r + lo + b + (lo + c' * 18446744073709551616)) * P = (X + b' * 18446744073709551616 + (l * V + c)) * P := by rw [h1, h2]
  grind
theorem off_last {A L M X c r b b' P : Nat} (h : A + L = M + (b + c) * P) (h2 : r + c + b = X + b' * 18446744073709551616) :
    A + r * P + L = M + X * P + b' * (P * 18446744073709551616) := by
  have e : (r + c + b) * P = (X + b' * 18446744073709551616) * P := by rw [h2]
  grind
theorem sum_shift_upd (f : Nat → Nat) (o k v : Nat) : sumL (fun j => upd f (o + k) v (o + j)) (k + 1) = sumL (fun j => f (o + j)) k + v * bp k := by
  rw [sumL_succ, upd_same]
  congr 1
  exact sumL_congr fun i hi => upd_other f (o + k) v (by omega)
set_option maxHeartbeats 4000000 in
theorem take_off (gx o n gy cx cy l : Nat) (S V : Nat → Nat) (hS : ∀ j, j < 17 → S j < 18446744073709551616) (hV : ∀ j, j < 17 → V j < 18446744073709551616) (hg : gx ≠ gy) (ho : o + n < 17) (hl : l < 18446744073709551616) (w : World) (rx : Row w gx 210 17 S) (ry : Row w gy 210 17 V) :
    Calls Tryz.prog 156 #[.slice (some ⟨gx, o, none⟩) (n + 1) cx, .slice (some ⟨gy, 0, none⟩) n cy, .int .u64 (l : Nat)] w fun e w' =>
      ∃ (S' : Nat → Nat) (b : Nat), e = .returned (.bool (decide (b ≠ 0))) ∧ b ≤ 1 ∧ sumL (fun j => S' (o + j)) (n + 1) + l * sumL V n = sumL (fun j => S (o + j)) (n + 1) + b * bp (n + 1) ∧
        (∀ j, j < o ∨ o + n < j → S' j = S j) ∧ (∀ j, j < 17 → S' j < 18446744073709551616) ∧ Row w' gx 210 17 S' ∧ Near gx w w' := by
  have HS := hid hS
  have HV := hid hV
  clear hS hV
  go_enter Tryz.func156, Tryz.ntmps156
  go_wp2
  go_loopw [8, 9, 14] (fun tc tb ti wr => ∃ (i c b : Nat) (T : Nat → Nat), i ≤ n ∧ tc = .int .u64 (c : Nat) ∧ tb = .int .u64 (b : Nat) ∧ ti = .int .i64 (i : Nat) ∧ c < 18446744073709551616 ∧ b ≤ 1 ∧
      sumL (fun j => T (o + j)) i + l * sumL V i = sumL (fun j => S (o + j)) i + (b + c) * bp i ∧ (∀ j, j < o ∨ o + i ≤ j → T j = S j) ∧ (∀ j, j < 17 → T j < 18446744073709551616) ∧ Row wr gx 210 17 T ∧ Near gx w wr)
    (fun _ _ ti _ => n - (intOf ti).toNat)
  case atStart => exact ⟨0, 0, 0, S, by omega, rfl, rfl, rfl, by omega, by omega, by simp [sumL_zero], fun _ _ => rfl, HS.out, rx, Near.refl _ _⟩
  case round =>
    obtain ⟨i, c, b, T, hi, rfl, rfl, rfl, hc, hb, hsum, hT, hTl, hR, hN⟩ := hrel
    have Hsum := hid hsum
    have HT := hid hT
    have HTl := hid hTl
    clear hsum hT hTl rx
    by_cases hlt : i < n
    · have hVi := HV.out i (by omega)
      have hcy := (hN.row (Ne.symm hg) ry).cell i (by omega)
      have hcx := hR.cell (o + i) (by omega)
      have hfx := hR.frozen (o + i)
      obtain ⟨lo, c', hlo, hc'⟩ : ∃ lo c' : Nat, lo = (l * V i + c + 0) % 18446744073709551616 ∧ c' = (l * V i + c + 0) / 18446744073709551616 := ⟨_, _, rfl, rfl⟩
      have hstep := step_any l (V i) c 0 hl hVi hc (by decide)
      rw [← hlo, ← hc'] at hstep
      obtain ⟨b1, b2, b3⟩ := step_bound hl hVi hc (by decide) hlo hc'
      have HST := hid (show ∀ w, Calls Tryz.prog 150 #[.int .u64 (l : Nat), .int .u64 (V i : Nat), .int .u64 (c : Nat), .int .u64 0] w (fun e w' => e = .returned (.tuple #[.int .u64 (lo : Nat), .int .u64 (c' : Nat)]) ∧ w' = w) from hstep)
      have HB3 := hid b3
      clear hlo hc' hstep b3
      obtain ⟨r, b', hadd, hr, hrl, hb1⟩ : ∃ r b' : Nat, (∀ w, (callFunc 122 #[.int .u64 (T (o + i) : Nat), .int .u64 (lo : Nat), .int .u64 (b : Nat)]).run Tryz.prog w = .ok (.value (.tuple #[.int .u64 (r : Nat), .int .u64 (b' : Nat)])) w) ∧
          Hid (r + lo + b = T (o + i) + b' * 18446744073709551616) ∧ r < 18446744073709551616 ∧ b' ≤ 1 :=
        ⟨_, _, run_sub (T (o + i)) lo b hb, hid (by have := HTl.out (o + i) (by omega); split <;> omega), Nat.mod_lt _ (by decide), by split <;> omega⟩
      have gR := hR.set (o + i) r
      have gN := hN.cell (i := o + i) (.int .u64 (r : Nat))
      clear hR hN
      go_wp2_with (go_at_call 150; (with_reducible refine (HST.out _).mono ?_); rintro e w' ⟨rfl, rfl⟩)
      go_roundw
      case rel =>
        refine ⟨i + 1, c', b', upd T (o + i) r, by omega, rfl, rfl, by go_num, b2, hb1, ?_, fun j hj => by rw [upd_other _ _ _ (by omega)]; exact HT.out j (by omega), upd_lt HTl.out hrl, gR, gN⟩
        rw [sum_shift_upd, sumL_succ V, sumL_succ (fun j => S (o + j)), bp_succ, Nat.mul_add, ← Nat.mul_assoc]
        have h1 := HB3.out
        have h2 := hr.out
        rw [HT.out (o + i) (by omega)] at h2
        exact off_step Hsum.out (by omega) h2
      case measure => simp [intOf] <;> omega
    · obtain rfl : i = n := by omega
      have hcx := hR.cell (o + i) (by omega)
      have hfx := hR.frozen (o + i)
      obtain ⟨r, b', hadd, hr, hrl, hb1⟩ : ∃ r b' : Nat, (∀ w, (callFunc 122 #[.int .u64 (T (o + i) : Nat), .int .u64 (c : Nat), .int .u64 (b : Nat)]).run Tryz.prog w = .ok (.value (.tuple #[.int .u64 (r : Nat), .int .u64 (b' : Nat)])) w) ∧
          Hid (r + c + b = T (o + i) + b' * 18446744073709551616) ∧ r < 18446744073709551616 ∧ b' ≤ 1 :=
        ⟨_, _, run_sub (T (o + i)) c b hb, hid (by have := HTl.out (o + i) (by omega); split <;> omega), Nat.mod_lt _ (by decide), by split <;> omega⟩
      have gR := hR.set (o + i) r
      have gN := hN.cell (i := o + i) (.int .u64 (r : Nat))
      clear hR hN
      go_wp2
      go_ret
      refine ⟨upd T (o + i) r, b', ret_bool ?_, hb1, ?_, fun j hj => by rw [upd_other _ _ _ (by omega)]; exact HT.out j (by omega), upd_lt HTl.out hrl, gR, gN⟩
      · rw [Bool.eq_iff_iff, bne_iff_ne, decide_eq_true_iff]; omega
      · rw [sum_shift_upd, sumL_succ (fun j => S (o + j)), bp_succ]
        have h2 := hr.out
        rw [HT.out (o + i) (by omega)] at h2
        exact off_last Hsum.out h2
theorem back_step {A L M X V c c' r P : Nat} (h : A + c * P = M + L) (h2 : r + c' * 18446744073709551616 = X + V + c) :
    A + r * P + c' * (P * 18446744073709551616) = M + X * P + (L + V * P) := by
  have e : (r + c' * 18446744073709551616) * P = (X + V + c) * P := by rw [h2]
  grind
set_option maxHeartbeats 4000000 in
theorem put_back (gx o n gy cx cy : Nat) (S V : Nat → Nat) (hS : ∀ j, j < 17 → S j < 18446744073709551616) (hV : ∀ j, j < 17 → V j < 18446744073709551616) (hg : gx ≠ gy) (ho : o + n < 17) (w : World) (rx : Row w gx 210 17 S) (ry : Row w gy 210 17 V) :
    Calls Tryz.prog 157 #[.slice (some ⟨gx, o, none⟩) (n + 1) cx, .slice (some ⟨gy, 0, none⟩) n cy] w fun e w' =>
      ∃ (S' : Nat → Nat) (b : Nat), e = .returned (.bool (decide (b ≠ 0))) ∧ b ≤ 1 ∧ sumL (fun j => S' (o + j)) (n + 1) + b * bp (n + 1) = sumL (fun j => S (o + j)) (n + 1) + sumL V n ∧
        (∀ j, j < o ∨ o + n < j → S' j = S j) ∧ (∀ j, j < 17 → S' j < 18446744073709551616) ∧ Row w' gx 210 17 S' ∧ Near gx w w' := by
  have HS := hid hS
  have HV := hid hV
  clear hS hV
  go_enter Tryz.func157, Tryz.ntmps157
  go_wp2
  go_loopw [5, 10] (fun tc ti wr => ∃ (i c : Nat) (T : Nat → Nat), i ≤ n ∧ tc = .int .u64 (c : Nat) ∧ ti = .int .i64 (i : Nat) ∧ c ≤ 1 ∧
      sumL (fun j => T (o + j)) i + c * bp i = sumL (fun j => S (o + j)) i + sumL V i ∧ (∀ j, j < o ∨ o + i ≤ j → T j = S j) ∧ (∀ j, j < 17 → T j < 18446744073709551616) ∧ Row wr gx 210 17 T ∧ Near gx w wr)
    (fun _ ti _ => n - (intOf ti).toNat)
  case atStart => exact ⟨0, 0, S, by omega, rfl, rfl, by omega, by simp [sumL_zero], fun _ _ => rfl, HS.out, rx, Near.refl _ _⟩
  case round =>
    obtain ⟨i, c, T, hi, rfl, rfl, hc, hsum, hT, hTl, hR, hN⟩ := hrel
    have Hsum := hid hsum
    have HT := hid hT
    have HTl := hid hTl
    clear hsum hT hTl rx
    by_cases hlt : i < n
    · have hY := hN.row (Ne.symm hg) ry
      have hcy := hY.cell i (by omega)
      have hcx := hR.cell (o + i) (by omega)
      have hfx := hR.frozen (o + i)
      obtain ⟨r, c', hadd, hr, hrl, hc1⟩ : ∃ r c' : Nat, (∀ w, (callFunc 107 #[.int .u64 (T (o + i) : Nat), .int .u64 (V i : Nat), .int .u64 (c : Nat)]).run Tryz.prog w = .ok (.value (.tuple #[.int .u64 (r : Nat), .int .u64 (c' : Nat)])) w) ∧
          Hid (r + c' * 18446744073709551616 = T (o + i) + V i + c) ∧ r < 18446744073709551616 ∧ c' ≤ 1 :=
        ⟨_, _, run_add (T (o + i)) (V i) c hc, hid (by omega), Nat.mod_lt _ (by decide), by have := HTl.out (o + i) (by omega); have := HV.out i (by omega); omega⟩
      go_wp2
      refine wp_region_upH (S := (fun wq => Row wq gx 210 17 T ∧ Row wq gy 210 17 V ∧ wq.cell? ⟨gx, o + i, none⟩ = some (.int .u64 (T (o + i) : Nat)) ∧ wq.cell? ⟨gy, i, none⟩ = some (.int .u64 (V i : Nat)) ∧ Near gx w wq)) (req := (fun j => j != 16)) (by kernel_rfl) (fun _ _ h hu => ⟨(h.1).up hu, (h.2.1).up hu, hu.cell (h.2.2.1), hu.cell (h.2.2.2.1), Near.up (h.2.2.2.2) hu⟩) ⟨gRow, gRow, (by first | assumption | (apply Blk.cell; exact gBlk; exact rfl)), (by first | assumption | (apply Blk.cell; exact gBlk; exact rfl)), (by assumption)⟩ (fun wS hSS hSu => ?_)
      have ⟨hS1, hS2, hS3, hS4, hSB⟩ := hSS
      clear hcx hcy hfx hR hY hN
      have hk1 : (i : Int) < (n : Int) + 1 := by omega
      refine wpAnyU_pure (i := 0) (d := (some 14)) (v := ?_) rfl rfl (by kernel_rfl) (fun _ _ _ h => h) hSu.out (Or.inl ⟨by rfl, fun w' _ => yu_value ?_⟩) ?_
      rotate_left
      · (go_simp; (try exact rfl))
      try simp only [Act.put, pu1, pu2, pu3]
      refine wpAnyU_pure (i := 1) (d := (some 15)) (v := ?_) rfl rfl (by kernel_rfl) (fun _ _ _ h => h) hSu.out (Or.inl ⟨by rfl, fun w' _ => yu_value ?_⟩) ?_
      rotate_left
      · (go_simp; (try exact rfl))
      try simp only [Act.put, pu1, pu2, pu3]
      refine wpAnyU_pure (i := 2) (d := (some 16)) (v := ?_) rfl rfl (by kernel_rfl) (fun _ _ _ h => h) hSu.out (Or.inl ⟨by rfl, fun w' _ => yu_value ?_⟩) ?_
      rotate_left
      · (go_simp; (try exact rfl))
      try simp only [Act.put, pu1, pu2, pu3]
      refine wpAnyU_pure (i := 3) (d := (some 17)) (v := ?_) rfl rfl (by kernel_rfl) (fun _ _ _ h => h) hSu.out (Or.inl ⟨by rfl, fun w' _ => yu_value ?_⟩) ?_
      rotate_left
      · (go_simp; (try exact rfl))
      try simp only [Act.put, pu1, pu2, pu3]
      refine wpAnyU_pure (i := 4) (d := (some 18)) (v := ?_) rfl rfl (by kernel_rfl) (fun _ _ _ h => h) hSu.out (Or.inl ⟨by rfl, fun w' _ => yu_value ?_⟩) ?_
      rotate_left
      · (go_simp; (try exact rfl))
      try simp only [Act.put, pu1, pu2, pu3]
      refine wpAnyU_take (i := 5) (d := (some 19)) (v := ?_) rfl rfl (by kernel_rfl) (fun _ _ _ h => h) hSu.out hSS (Or.inl ⟨by rfl, fun w' hSw => yu_value ?_⟩) ?_
      rotate_left
      · ((try dsimp only at hSw); (try obtain ⟨_, _, _, _, _⟩ := hSw); go_simp; (try exact rfl))
      try simp only [Act.put, pu1, pu2, pu3]
      refine wpAnyU_pure (i := 6) (d := (some 20)) (v := ?_) rfl rfl (by kernel_rfl) (fun _ _ _ h => h) hSu.out (Or.inl ⟨by rfl, fun w' _ => yu_value ?_⟩) ?_
      rotate_left
      · (go_simp; (try exact rfl))
      try simp only [Act.put, pu1, pu2, pu3]
      refine wpAnyU_pure (i := 7) (d := (some 21)) (v := ?_) rfl rfl (by kernel_rfl) (fun _ _ _ h => h) hSu.out (Or.inl ⟨by rfl, fun w' _ => yu_value ?_⟩) ?_
      rotate_left
      · (go_simp; (try exact rfl))
      try simp only [Act.put, pu1, pu2, pu3]
      refine wpAnyU_pure (i := 8) (d := (some 22)) (v := ?_) rfl rfl (by kernel_rfl) (fun _ _ _ h => h) hSu.out (Or.inl ⟨by rfl, fun w' _ => yu_value ?_⟩) ?_
      rotate_left
      · (go_simp; (try exact rfl))
      try simp only [Act.put, pu1, pu2, pu3]
      refine wpAnyU_take (i := 9) (d := (some 23)) (v := ?_) rfl rfl (by kernel_rfl) (fun _ _ _ h => h) hSu.out hSS (Or.inl ⟨by rfl, fun w' hSw => yu_value ?_⟩) ?_
      rotate_left
      · ((try dsimp only at hSw); (try obtain ⟨_, _, _, _, _⟩ := hSw); go_simp; (try exact rfl))
      try simp only [Act.put, pu1, pu2, pu3]
      refine wpAnyU_pure (i := 10) (d := (some 24)) (v := ?_) rfl rfl (by kernel_rfl) (fun _ _ _ h => h) hSu.out (Or.inl ⟨by rfl, fun w' _ => yu_value ?_⟩) ?_
      rotate_left
      · (go_simp; (try exact rfl))
      try simp only [Act.put, pu1, pu2, pu3]
      refine wpAnyU_pure (i := 11) (d := (some 25)) (v := ?_) rfl rfl (by kernel_rfl) (fun _ _ _ h => h) hSu.out (Or.inl ⟨by rfl, fun w' _ => yu_value ?_⟩) ?_
      rotate_left
      · (go_simp; (try exact rfl))
      try simp only [Act.put, pu1, pu2, pu3]
      refine wpAnyU_pure (i := 12) (d := (some 13)) (v := ?_) rfl rfl (by kernel_rfl) (fun _ _ _ h => h) hSu.out (Or.inl ⟨by rfl, fun w' _ => yu_value ?_⟩) ?_
      rotate_left
      · (go_simp; (try exact rfl))
      try simp only [Act.put, pu1, pu2, pu3]
      refine wpAnyU_pure (i := 13) (d := (some 26)) (v := ?_) rfl rfl (by kernel_rfl) (fun _ _ _ h => h) hSu.out (Or.inl ⟨by rfl, fun w' _ => yu_value ?_⟩) ?_
      rotate_left
      · (go_simp; (try exact rfl))
      try simp only [Act.put, pu1, pu2, pu3]
      refine wpAnyU_pure (i := 14) (d := (some 27)) (v := ?_) rfl rfl (by kernel_rfl) (fun _ _ _ h => h) hSu.out (Or.inl ⟨by rfl, fun w' _ => yu_value ?_⟩) ?_
      rotate_left
      · (go_simp; (try exact rfl))
      try simp only [Act.put, pu1, pu2, pu3]
      refine wpAnyU_pure (i := 15) (d := (some 28)) (v := ?_) rfl rfl (by kernel_rfl) (fun _ _ _ h => h) hSu.out (Or.inl ⟨by rfl, fun w' _ => yu_value ?_⟩) ?_
      rotate_left
      · (go_simp; (try exact rfl))
      try simp only [Act.put, pu1, pu2, pu3]
      refine wpAnyU_one (i := 16) rfl (by kernel_rfl) (by rfl) fun w1 hw1 => ?_
      have hcW := (hS1.up hw1).cell (o+i) (by omega)
      have hfW := (hS1.up hw1).frozen (o+i)
      go_simp
      clear hcW hfW
      refine wpAnyU_pure (i := 17) (d := (some 5)) (v := ?_) rfl rfl (by kernel_rfl) (fun _ _ _ h => h) hSu.out (Or.inl ⟨by rfl, fun w' _ => yu_value ?_⟩) ?_
      rotate_left
      · (go_simp; (try exact rfl))
      try simp only [Act.put, pu1, pu2, pu3]
      refine wpAnyU_done (by kernel_rfl) (fun wF huE => ?_) _
      have gR := ((hS1.up hw1).set (o + i) r).up huE
      have gN := ((hSB.up hw1).cell (i := o + i) (.int .u64 (r : Nat))).up huE
      clear hS1 hS2 hS3 hS4 hSB hSS hw1 huE
      go_wp2
      go_roundw
      case rel =>
        refine ⟨i + 1, c', upd T (o + i) r, by omega, rfl, by go_num, hc1, ?_, fun j hj => by rw [upd_other _ _ _ (by omega)]; exact HT.out j (by omega), upd_lt HTl.out hrl, gR, gN⟩
        rw [sum_shift_upd, sumL_succ V, sumL_succ (fun j => S (o + j)), bp_succ]
        have h2 := hr.out
        rw [HT.out (o + i) (by omega)] at h2
        exact back_step Hsum.out h2
      case measure => simp [intOf] <;> omega
    · obtain rfl : i = n := by omega
      have hcx := hR.cell (o + i) (by omega)
      have hfx := hR.frozen (o + i)
      obtain ⟨r, c', hadd, hr, hrl, hc1⟩ : ∃ r c' : Nat, (∀ w, (callFunc 107 #[.int .u64 (T (o + i) : Nat), .int .u64 0, .int .u64 (c : Nat)]).run Tryz.prog w = .ok (.value (.tuple #[.int .u64 (r : Nat), .int .u64 (c' : Nat)])) w) ∧
          Hid (r + c' * 18446744073709551616 = T (o + i) + 0 + c) ∧ r < 18446744073709551616 ∧ c' ≤ 1 := by
        have h := run_add (T (o + i)) 0 c hc
        simp only [show ((0 : Nat) : Int) = 0 from rfl] at h
        exact ⟨_, _, h, hid (by omega), Nat.mod_lt _ (by decide), by have := HTl.out (o + i) (by omega); omega⟩
      have gR := hR.set (o + i) r
      have gN := hN.cell (i := o + i) (.int .u64 (r : Nat))
      clear hR hN
      go_wp2
      go_ret
      refine ⟨upd T (o + i) r, c', ret_bool ?_, hc1, ?_, fun j hj => by rw [upd_other _ _ _ (by omega)]; exact HT.out j (by omega), upd_lt HTl.out hrl, gR, gN⟩
      · rw [Bool.eq_iff_iff, bne_iff_ne, decide_eq_true_iff]; omega
      · rw [sum_shift_upd, sumL_succ (fun j => S (o + j)), bp_succ]
        have h2 := hr.out
        rw [HT.out (o + i) (by omega)] at h2
        have h3 := back_step (V := 0) Hsum.out h2
        rw [Nat.zero_mul, Nat.add_zero] at h3
        exact h3
def guessN (h l y : Nat) : Nat := if y ≤ h then 18446744073709551615 else (18446744073709551616 * h + l) / y
theorem guess_lt {h l y : Nat} (hl : l < 18446744073709551616) : guessN h l y < 18446744073709551616 := by
  unfold guessN
  split
  · decide
  · exact short_q (by omega) hl
set_option maxHeartbeats 1000000 in
theorem guess_any (h l y : Nat) (_ : h < 18446744073709551616) (hl : l < 18446744073709551616) (hy : y < 18446744073709551616) (w : World) :
    Calls Tryz.prog 155 #[.int .u64 (h : Nat), .int .u64 (l : Nat), .int .u64 (y : Nat)] w fun e w' => e = .returned (.int .u64 (guessN h l y : Nat)) ∧ Up w w' := by
  by_cases hc : y ≤ h
  · have e : guessN h l y = 18446744073709551615 := by unfold guessN; rw [if_pos hc]
    rw [e]
    clear e
    go_enter Tryz.func155, Tryz.ntmps155
    go_wp2
    go_ret
    exact ⟨rfl, gUp⟩
  · have e : guessN h l y = (18446744073709551616 * h + l) / y := by unfold guessN; rw [if_neg hc]
    have hD := fun w => div64_any h l y hy hl (by omega) w
    rw [← e] at hD
    generalize guessN h l y = g at *
    generalize (18446744073709551616 * h + l) % y = r at *
    have HD := hid hD
    clear e hD
    go_enter Tryz.func155, Tryz.ntmps155
    go_wp2_with (go_at_call 145; (with_reducible refine (HD.out _).mono ?_); rintro e w' ⟨rfl, hu⟩)
    go_ret
    exact ⟨rfl, gUp⟩
theorem sumL_split (f : Nat → Nat) (a b : Nat) : sumL f (a + b) = sumL f a + sumL (fun j => f (a + j)) b * bp a := by
  induction b with
  | zero => simp [sumL_zero]
  | succ b ih =>
    rw [← Nat.add_assoc, sumL_succ, ih, sumL_succ, bp_add, Nat.add_mul]
    generalize sumL (fun j => f (a + j)) b = t at *
    generalize bp a = p at *
    generalize bp b = q at *
    grind
theorem zero_above {f : Nat → Nat} {n k : Nat} (h : sumL f n < bp k) : ∀ j, k ≤ j → j < n → f j = 0 := by
  induction n with
  | zero => intro j _ hj; omega
  | succ n ih =>
    rw [sumL_succ] at h
    intro j h1 h2
    by_cases e : j = n
    · subst e
      rcases Nat.eq_zero_or_pos (f j) with h3 | h3
      · exact h3
      · have h4 : 1 * bp j ≤ f j * bp j := Nat.mul_le_mul_right _ h3
        have h5 := bp_mono h1
        omega
    · exact ih (by omega) j h1 (by omega)
theorem sum_cut {f : Nat → Nat} {n k : Nat} (hk : k ≤ n) (h : ∀ j, k ≤ j → j < n → f j = 0) : sumL f n = sumL f k := by
  obtain ⟨d, rfl⟩ := Nat.exists_eq_add_of_le hk
  rw [sumL_split]
  rw [sumL_congr (g := fun _ => 0) (fun j hj => h (k + j) (by omega) (by omega)), sumL_zeros]
  omega
theorem guess_ge {F V : Nat → Nat} {m P W : Nat} (hF : ∀ j, j < m + 2 → F j < 18446744073709551616) (hW : sumL F (m + 2) = W) (hP : sumL V (m + 1) = P) (h0 : 0 < P) (hlt : W < P * 18446744073709551616) : W / P ≤ guessN (F (m + 1)) (F m) (V m) := by
  unfold guessN
  split
  · have : W / P < 18446744073709551616 := by rw [Nat.div_lt_iff_lt_mul h0, Nat.mul_comm]; exact hlt
    omega
  · rename_i hv
    rw [Nat.le_div_iff_mul_le (by omega)]
    have h1 := sumL_lt (f := F) (k := m) fun j hj => hF j (by omega)
    rw [sumL_succ, sumL_succ, bp_succ] at hW
    rw [sumL_succ] at hP
    have h2 := Nat.div_mul_le_self W P
    generalize W / P = q at *
    have h3 : q * (V m * bp m) ≤ q * P := Nat.mul_le_mul_left _ (by omega)
    have h4 : q * V m * bp m < (18446744073709551616 * F (m + 1) + F m + 1) * bp m := by
      have e : (18446744073709551616 * F (m + 1) + F m + 1) * bp m = F m * bp m + F (m + 1) * (bp m * 18446744073709551616) + bp m := by grind
      rw [e, Nat.mul_assoc]
      omega
    have h5 := Nat.lt_of_mul_lt_mul_right h4
    omega
theorem round_end {W1 W P g : Nat} (h : W1 + g * P = W) (hge : W / P ≤ g) (h0 : 0 < P) : W1 < P ∧ g = W / P := by
  have h1 : g ≤ W / P := by rw [Nat.le_div_iff_mul_le h0]; omega
  have h2 : g = W / P := by omega
  refine ⟨?_, h2⟩
  have h3 := Nat.mod_lt W h0
  have h4 := Nat.div_add_mod W P
  rw [← h2, Nat.mul_comm] at h4
  omega
theorem round_more {W1 W P g B : Nat} (h : W1 + g * P = W + B) (hB : W1 < B) (h0 : 0 < P) : 1 ≤ g ∧ W / P ≤ g - 1 := by
  have h1 : W < g * P := by omega
  have h2 : W / P < g := by rw [Nat.div_lt_iff_lt_mul h0]; exact h1
  generalize W / P = q at *
  omega
theorem round_next {W1 W2 W P g B b : Nat} (h : W1 + g * P = W + B) (h2 : W2 + b * B = W1 + P) (hg : 1 ≤ g) (hb : b ≤ 1) : W2 + (g - 1) * P = W + (1 - b) * B := by
  obtain ⟨k, rfl⟩ : ∃ k, g = k + 1 := ⟨g - 1, by omega⟩
  rw [Nat.add_sub_cancel, Nat.add_mul, Nat.one_mul] at *
  have hb2 : b = 0 ∨ b = 1 := by omega
  rcases hb2 with rfl | rfl
  · simp at *; omega
  · simp at *; omega
theorem long_step {S S' T : Nat → Nat} {i m P W W1 g X : Nat} (hm : i + m < 17) (hi : i < 16) (hS : ∀ j, j < 17 → S j < 18446744073709551616) (hX : X = sumL T 16 * P + sumL S 17) (hT : T i = 0) (hR : sumL S 17 < bp (i + m + 1))
    (hW : sumL (fun j => S (i + j)) (m + 1) = W) (hW1 : sumL (fun j => S' (i + j)) (m + 1) = W1) (ho : ∀ j, j < i ∨ i + m < j → S' j = S j) (he : W1 + g * P = W) (hlt : W1 < P) :
    X = sumL (upd T i g) 16 * P + sumL S' 17 ∧ sumL S' 17 < P * bp i := by
  have hz := zero_above hR
  have e1 : sumL S 17 = sumL S i + W * bp i := by
    rw [sum_cut (show i + (m + 1) ≤ 17 by omega) (fun j h1 h2 => hz j (by omega) h2), sumL_split, hW]
  have e2 : sumL S' 17 = sumL S i + W1 * bp i := by
    rw [sum_cut (show i + (m + 1) ≤ 17 by omega) (fun j h1 h2 => by rw [ho j (by omega)]; exact hz j (by omega) h2), sumL_split, hW1, sumL_congr fun j hj => ho j (.inl hj)]
  have e3 := sumL_upd T g hi
  rw [hT, Nat.zero_mul, Nat.add_zero] at e3
  have h1 := sumL_lt (f := S) (k := i) fun j hj => hS j (by omega)
  constructor
  · rw [e2, e3, hX, e1, ← he]
    grind
  · rw [e2]
    have h2 : (W1 + 1) * bp i ≤ P * bp i := Nat.mul_le_mul_right _ hlt
    rw [Nat.add_mul] at h2
    omega
theorem long_end {x y s Q R : Nat} (h0 : 0 < y) (h : x * 2 ^ s = Q * (y * 2 ^ s) + R) (hR : R < y * 2 ^ s) : Q = x / y ∧ R / 2 ^ s = x % y := by
  have hp := Nat.two_pow_pos s
  generalize 2 ^ s = p at *
  have h1 : x * p / (y * p) = Q := by
    rw [h, Nat.mul_comm Q, Nat.mul_add_div (Nat.mul_pos h0 hp), Nat.div_eq_of_lt hR, Nat.add_zero]
  have h2 : x * p % (y * p) = R := by
    rw [h, Nat.mul_comm Q, Nat.mul_add_mod, Nat.mod_eq_of_lt hR]
  rw [Nat.mul_div_mul_right _ _ hp] at h1
  rw [Nat.mul_mod_mul_right] at h2
  exact ⟨h1.symm, by rw [← h2, Nat.mul_div_cancel _ hp]⟩
theorem norm_part {y m s : Nat} (hy : y < bp m) (hm : 0 < m) (htop : limb y (m - 1) ≠ 0) (hs : s = 64 - Lib.bitLen (limb y (m - 1))) : y * 2 ^ s < bp m ∧ 9223372036854775808 * bp (m - 1) ≤ y * 2 ^ s ∧ s < 64 := by
  obtain ⟨k, rfl⟩ : ∃ k, m = k + 1 := ⟨m - 1, by omega⟩
  rw [Nat.add_sub_cancel] at *
  obtain ⟨b1, b2, b3, b4⟩ := bitLen_spec (limb_lt y k) htop
  have e : limb y k = y / bp k := by
    unfold limb
    exact Nat.mod_eq_of_lt (by rw [Nat.div_lt_iff_lt_mul (bp_pos k), Nat.mul_comm, ← bp_succ]; exact hy)
  generalize Lib.bitLen (limb y k) = L at *
  rw [e] at b2 b3
  have h1 : y < 2 ^ L * bp k := by rw [← Nat.div_lt_iff_lt_mul (bp_pos k)]; exact b3
  have h2 : 2 ^ (L - 1) * bp k ≤ y := by rw [← Nat.le_div_iff_mul_le (bp_pos k)]; exact b2
  have hp := Nat.two_pow_pos s
  have e1 : 2 ^ L * 2 ^ s = 18446744073709551616 := by rw [← Nat.pow_add, show L + s = 64 by omega]
  have e2 : 2 ^ (L - 1) * 2 ^ s = 9223372036854775808 := by rw [← Nat.pow_add, show L - 1 + s = 63 by omega]
  refine ⟨?_, ?_, by omega⟩
  · have h3 : y * 2 ^ s < 2 ^ L * bp k * 2 ^ s := Nat.mul_lt_mul_of_pos_right h1 hp
    rw [bp_succ, ← e1]
    calc y * 2 ^ s < 2 ^ L * bp k * 2 ^ s := h3
      _ = bp k * (2 ^ L * 2 ^ s) := by grind
  · have h3 : 2 ^ (L - 1) * bp k * 2 ^ s ≤ y * 2 ^ s := Nat.mul_le_mul_right _ h2
    rw [← e2]
    calc 2 ^ (L - 1) * 2 ^ s * bp k = 2 ^ (L - 1) * bp k * 2 ^ s := by grind
      _ ≤ y * 2 ^ s := h3
theorem run_allocL {o : Oper} {a : Act} (ho : o.op = .alloc 210) (w : World) :
    (execOp a.eval o).run Tryz.prog w = .ok (.value (.pointer (some ⟨w.heap.size, 0, none⟩))) (w.alloc (.cells (cells 17 (fun _ => 0)) 210)) := by
  rw [← zeros17]
  unfold execOp
  rw [ho]
  dsimp only
  go_simp
theorem wpAnyU_allocL {ops : Array Oper} {Q : Exit → Act → World → Prop} {md : Region.Mode} {S : World → Prop} {req : Nat → Bool} {i : Nat} {o : Oper} {d : Option Tmp} {fuel : Nat} {listed : Array Bool} {a : Act} {w : World}
    (hi : ops[i]? = some o) (hd : o.dst = d) (hr : Region.ready md ops listed = [i]) (hw : Region.wanted o (yielded ops a.tmps) = true) (ho : o.op = .alloc 210) (hSup : ∀ w w', S w → Up w w' → S w')
    (h : ∀ w1, Up w w1 → wpAnyU Tryz.prog md ops Q S req fuel (listed.setIfInBounds i true) (a.put d (.pointer (some ⟨w1.heap.size, 0, none⟩))) (w1.alloc (.cells (cells 17 (fun _ => 0)) 210))) : wpAnyU Tryz.prog md ops Q S req (fuel + 1) listed a w := by
  subst hd
  refine wpAnyU_one hi hr hw fun w1 hw1 => ?_
  unfold Oper.wp
  rw [run_allocL ho w1]
  exact ⟨fun _ hS => hSup _ _ hS (Up.alloc _ _), h w1 hw1⟩
theorem wpAnyU_alloc2L {ops : Array Oper} {Q : Exit → Act → World → Prop} {md : Region.Mode} {S : World → Prop} {req : Nat → Bool} {i j : Nat} {oi oj : Oper} {di dj : Tmp} {fuel : Nat} {listed : Array Bool} {a : Act} {w : World}
    (hi : ops[i]? = some oi) (hj : ops[j]? = some oj) (hdi : oi.dst = some di) (hdj : oj.dst = some dj) (hd : di ≠ dj) (hgi : oi.guard = none) (hgj : oj.guard = none) (hoi : oi.op = .alloc 210) (hoj : oj.op = .alloc 210)
    (hr : Region.ready md ops listed = [i, j]) (hr1 : Region.ready md ops (listed.setIfInBounds i true) = [j]) (hr2 : Region.ready md ops (listed.setIfInBounds j true) = [i]) (hij : i ≠ j) (hSup : ∀ w w', S w → Up w w' → S w')
    (h : ∀ w1 p q, Up w w1 → Row w1 p 210 17 (fun _ => 0) → Row w1 q 210 17 (fun _ => 0) → p ≠ q → w.heap.size ≤ p → w.heap.size ≤ q →
      wpAnyU Tryz.prog md ops Q S req fuel ((listed.setIfInBounds i true).setIfInBounds j true) ((a.put (some di) (.pointer (some ⟨p, 0, none⟩))).put (some dj) (.pointer (some ⟨q, 0, none⟩))) w1) :
    wpAnyU Tryz.prog md ops Q S req (fuel + 2) listed a w := by
  have hwi : ∀ a : Act, Region.wanted oi (yielded ops a.tmps) = true := fun a => by simp [Region.wanted, hgi]
  have hwj : ∀ a : Act, Region.wanted oj (yielded ops a.tmps) = true := fun a => by simp [Region.wanted, hgj]
  refine wpAnyU_all hr (by simp) fun w1 hw1 k hk => ?_
  simp only [List.mem_cons, List.not_mem_nil, or_false] at hk
  rcases hk with rfl | rfl
  · unfold wpOp
    simp only [hi, hwi, if_true]
    refine .inl ?_
    unfold Oper.wp
    rw [run_allocL hoi w1]
    refine ⟨fun _ hS => hSup _ _ hS (Up.alloc _ _), ?_⟩
    refine wpAnyU_allocL hj hdj hr1 (hwj _) hoj hSup fun w2 hw2 => ?_
    rw [hdi]
    have h1 := hw1.size
    have h2 := hw2.size
    simp only [World.alloc, Array.size_push] at h2
    exact h _ _ _ ((hw1.trans ((Up.alloc _ _).trans hw2)).trans (Up.alloc _ _)) ((Row.up (row_newc _ 17 _ rfl) hw2).up (Up.alloc _ _)) (row_newc _ 17 _ rfl) (by omega) (by omega) (by omega)
  · unfold wpOp
    simp only [hj, hwj, if_true]
    refine .inl ?_
    unfold Oper.wp
    rw [run_allocL hoj w1]
    refine ⟨fun _ hS => hSup _ _ hS (Up.alloc _ _), ?_⟩
    refine wpAnyU_allocL hi hdi hr2 (hwi _) hoi hSup fun w2 hw2 => ?_
    rw [hdj, Act.put_comm a (x := some dj) (y := some di) _ _ (fun d h1 h2 => hd (by rw [Option.some.inj h1, Option.some.inj h2])), Array.setIfInBounds_comm _ _ (Ne.symm hij)]
    have h1 := hw1.size
    have h2 := hw2.size
    simp only [World.alloc, Array.size_push] at h2
    exact h _ _ _ ((hw1.trans ((Up.alloc _ _).trans hw2)).trans (Up.alloc _ _)) (row_newc _ 17 _ rfl) ((Row.up (row_newc _ 17 _ rfl) hw2).up (Up.alloc _ _)) (by omega) (by omega) (by omega)
theorem wp_worldD {P : Program} {c : Code} {Q : Exit → Act → World → Prop} {a : Act} {w : World} (R : World → Prop) (h : R w) (k : ∀ w', R w' → c.wp P Q a w') : c.wp P Q a w := k w h
section
variable {P : Program} {ops : Array Oper} {Q : Exit → Act → World → Prop} {md : Region.Mode} {S : World → Prop} {req : Nat → Bool}
theorem wpAnyU_callN {i : Nat} {o : Oper} {d : Option Tmp} {fuel : Nat} {listed : Array Bool} {a : Act} {w : World} {f : FuncId} {args : Array Value} {R : World → Value → World → Prop} (hi : ops[i]? = some o) (hd : o.dst = d) (hr : Region.ready md ops listed = [i]) (hw : Region.wanted o (yielded ops a.tmps) = true) (hq : req i = false)
    (hrun : ∀ w', (execOp a.eval o).run P w' = .ok (.enter f args) w') (hc : ∀ w', Up w w' → Calls P f args w' fun e w'' => ∃ v, e = .returned v ∧ R w' v w'')
    (h : ∀ w' v w'', Up w w' → R w' v w'' → wpAnyU P md ops Q S req fuel (listed.setIfInBounds i true) (a.put d v) w'') : wpAnyU P md ops Q S req (fuel + 1) listed a w := by
  refine wpAnyU_one hi hr hw fun w1 hw1 => ?_
  unfold Oper.wp
  rw [hrun w1]
  subst hd
  refine Calls.mono (hc w1 hw1) fun e w'' he => ?_
  obtain ⟨v, rfl, hR⟩ := he
  exact ⟨(fun h1 => by (rw [hq] at h1; cases h1)), h w1 v w'' hw1 hR⟩
end
theorem undL2 : Tryz.prog.underlying 210 = some (.array (Tryz.prog.arrayLen 210) (Tryz.prog.elem 210)) := by kernel_rfl
theorem lenL2 : Tryz.prog.arrayLen 210 = 17 := by kernel_rfl
theorem run_size1 (w : World) : (sizeOf (Tryz.prog.elem 210)).run Tryz.prog w = .ok 1 w := by rfl
theorem slice_win {p i m : Nat} (h : i + m < 17) (w : World) :
    (Instr.sliceAt 210 (.pointer (some ⟨p, 0, none⟩)) (some (.int .i64 (i : Nat))) (some (.int .i64 ((i : Int) + (m : Int) + 1))) none).run Tryz.prog w = .ok (.slice (some ⟨p, i, none⟩) (m + 1) (17 - i)) w := by
  rw [run_sliceAt_array_lh w 210 ⟨p, 0, none⟩ undL2 .i64 .i64 (i : Nat) ((i : Int) + (m : Int) + 1) (by omega) (by omega) (by rw [lenL2]; omega), run_size1, lenL2]
  simp only [Result.andThen_ok, slicedAt, Int.toNat_natCast, Nat.mul_one]
  rw [if_neg (by omega), show ((i : Int) + (m : Int) + 1).toNat - i = m + 1 by omega]
  simp [Addr.add]
  intro h0; exact h0.symm
theorem slice_low {q m : Nat} (h : m < 17) (w : World) :
    (Instr.sliceAt 210 (.pointer (some ⟨q, 0, none⟩)) none (some (.int .i64 (m : Nat))) none).run Tryz.prog w = .ok (.slice (some ⟨q, 0, none⟩) m 17) w := by
  rw [run_sliceAt_array_h w 210 ⟨q, 0, none⟩ undL2 .i64 (m : Nat) (by omega) (by rw [lenL2]; omega), run_size1, lenL2]
  simp [slicedAt, Addr.add]
set_option maxHeartbeats 8000000 in
theorem divide_long (x y : Nat) (hx : x < bp 16) (hy : y < bp 16) (hxy : y ≤ x) (hm2 : 2 ≤ lenL (limb y) 16) (w : World) :
    Calls Tryz.prog 153 #[wideV x, wideV y] w fun e w' => e = .returned (divV x y) ∧ Up w w' := by
  have HLX := hid (length_any x)
  have HLY := hid (length_any y)
  have hn16 := lenL_le (limb x) 16
  have hm16 := lenL_le (limb y) 16
  have hyb := sum_len hy
  have hxb := lt_bp_len hx
  have hyl := lt_bp_len hy
  have hyg := bp_le_of_len (limb y) 16 (by omega)
  have htop := lenL_top (limb y) 16 (by omega)
  rw [sumL_limb, Nat.mod_eq_of_lt hy] at hyg
  obtain ⟨n, hn⟩ : ∃ n, lenL (limb x) 16 = n := ⟨_, rfl⟩
  obtain ⟨m, hm⟩ : ∃ m, lenL (limb y) 16 = m := ⟨_, rfl⟩
  rw [hn] at HLX hn16 hxb
  rw [hm] at HLY hm16 hyl hyg htop hm2
  have hmn : m ≤ n := by
    rcases Nat.lt_or_ge (m - 1) n with h | h
    · omega
    · have := bp_mono h; omega
  obtain ⟨s, hs⟩ : ∃ s, s = 64 - Lib.bitLen (limb y (m - 1)) := ⟨_, rfl⟩
  obtain ⟨hP1, hP2, hs64⟩ := norm_part hyl (by omega) htop hs
  have hlz := fun w => Tryz.bits_LeadingZeros64 (limb y (m - 1) : Nat) w (by omega) (by have := limb_lt y (m - 1); omega)
  have hbl := (bitLen_spec (limb_lt y (m - 1)) htop).2.2.2
  rw [Int.toNat_natCast, show (64 : Int) - (Lib.bitLen (limb y (m - 1)) : Int) = (s : Nat) by omega] at hlz
  have HLZ := hid hlz
  have HL1 := hid (left_any x hx s hs64)
  have HL2 := hid (left_any y hy s hs64)
  have es : IntKind.u64.wrap (s : Int) = (s : Nat) := by rw [IntKind.wrap_u64]; omega
  have em1 : IntKind.i64.wrap ((m : Int) - 1) = ((m - 1 : Nat) : Int) := by rw [IntWalk.i64_in _ (by omega)]; omega
  obtain ⟨m1, hm1⟩ : ∃ m1, m - 1 = m1 := ⟨_, rfl⟩
  rw [hm1] at em1 HLZ htop
  have enm : IntKind.i64.wrap ((n : Int) - (m : Int)) = (n : Int) - (m : Int) := IntWalk.i64_in _ (by omega)
  have HP1 := hid hP1
  have HP2 := hid hP2
  have Hn := hid hxb
  have hy0 := hid (show 0 < y by have := bp_pos (m - 1); omega)
  have Hx := hid hx
  have Hy := hid hy
  have Hm1 := hid hm1
  have ltm : m1 < 16 := by omega
  clear hyb hyg hyl hxb htop hs hlz hbl hP1 hP2 hxy hx hy hn hm hm1
  unfold wideV at HLX HLY HL1 HL2
  unfold longV at HL1 HL2
  have HD := hid (show divV x y = divV x y from rfl)
  unfold wideV
  go_enter Tryz.func153, Tryz.ntmps153
  go_wp2
  refine wp_region_upH (S := (fun wq => Row wq w.heap.size 33 16 (limb x) ∧ Row wq (w.heap.size + 1) 33 16 (limb y) ∧ Row wq (w.heap.size + 1 + 1) 33 16 (fun _ => 0) ∧ Row wq (w.heap.size + 1 + 1 + 1) 33 16 (fun _ => 0) ∧ Below w.heap.size w wq)) (req := (fun _ => true)) (by kernel_rfl) (fun _ _ h hu => ⟨(h.1).up hu, (h.2.1).up hu, (h.2.2.1).up hu, (h.2.2.2.1).up hu, below_up (h.2.2.2.2) hu⟩) ⟨gRow, gRow, gRow, gRow, gUp⟩ (fun wS hSS hSu => ?_)
  have ⟨hS1, hS2, hS3, hS4, hSB⟩ := hSS
  refine wpAnyU_take (i := 0) (d := (some 15)) (v := _) rfl rfl (by kernel_rfl) (fun _ _ _ h => h) hSu.out hSS (Or.inl ⟨by rfl, fun w' hSw => yu_value (run_ld undW infoW _ rfl _ rfl hSw.1)⟩) ?_
  try simp only [Act.put, pu1, pu2, pu3]
  refine wpAnyU_take (i := 1) (d := (some 16)) (v := _) rfl rfl (by kernel_rfl) (fun _ _ _ h => h) hSu.out hSS (Or.inl ⟨by rfl, fun w' hSw => yu_call ?_ (HLX.out _)⟩) ?_
  · go_simp
  try simp only [Act.put, pu1, pu2, pu3]
  refine wpAnyU_take (i := 2) (d := (some 17)) (v := _) rfl rfl (by kernel_rfl) (fun _ _ _ h => h) hSu.out hSS (Or.inl ⟨by rfl, fun w' hSw => yu_value (run_ld undW infoW _ rfl _ rfl hSw.2.1)⟩) ?_
  try simp only [Act.put, pu1, pu2, pu3]
  refine wpAnyU_take (i := 3) (d := (some 18)) (v := _) rfl rfl (by kernel_rfl) (fun _ _ _ h => h) hSu.out hSS (Or.inl ⟨by rfl, fun w' hSw => yu_call ?_ (HLY.out _)⟩) ?_
  · go_simp
  try simp only [Act.put, pu1, pu2, pu3]
  refine wpAnyU_pure (i := 4) (d := (some 6)) (v := ?_) rfl rfl (by kernel_rfl) (fun _ _ _ h => h) hSu.out (Or.inl ⟨by rfl, fun w' _ => yu_value ?_⟩) ?_
  rotate_left
  · (go_simp; (try exact rfl))
  try simp only [Act.put, pu1, pu2, pu3]
  refine wpAnyU_pure (i := 5) (d := (some 7)) (v := ?_) rfl rfl (by kernel_rfl) (fun _ _ _ h => h) hSu.out (Or.inl ⟨by rfl, fun w' _ => yu_value ?_⟩) ?_
  rotate_left
  · (go_simp; (try exact rfl))
  try simp only [Act.put, pu1, pu2, pu3]
  refine wpAnyU_done (by kernel_rfl) (fun wF huE => ?_) _
  have gX := hS1.up huE
  have gY := hS2.up huE
  have gQ := hS3.up huE
  have gR := hS4.up huE
  have gB := below_up hSB huE
  clear hS1 hS2 hS3 hS4 hSB hSS huE
  have hct := gY.cell m1 ltm
  go_upto_region 3 with (first | (go_at_call 146; (with_reducible refine (HLZ.out _).mono ?_); rintro e w' ⟨rfl, rfl⟩))
  clear hct HLX HLY HLZ
  refine wp_region_upH (S := (fun wq => Row wq w.heap.size 33 16 (limb x) ∧ Row wq (w.heap.size + 1) 33 16 (limb y) ∧ Row wq (w.heap.size + 1 + 1) 33 16 (fun _ => 0) ∧ Row wq (w.heap.size + 1 + 1 + 1) 33 16 (fun _ => 0) ∧ Below w.heap.size w wq)) (req := (fun j => j != 8 && j != 9)) (by kernel_rfl) (fun _ _ h hu => ⟨(h.1).up hu, (h.2.1).up hu, (h.2.2.1).up hu, (h.2.2.2.1).up hu, below_up (h.2.2.2.2) hu⟩) ⟨gRow, gRow, gRow, gRow, gUp⟩ (fun wS hSS hSu => ?_)
  have ⟨hS1, hS2, hS3, hS4, hSB⟩ := hSS
  clear gX gY gQ gR gB
  refine wpAnyU_take (i := 0) (d := (some 25)) (v := _) rfl rfl (by kernel_rfl) (fun _ _ _ h => h) hSu.out hSS (Or.inl ⟨by rfl, fun w' hSw => yu_value (run_ld undW infoW _ rfl _ rfl hSw.1)⟩) ?_
  try simp only [Act.put, pu1, pu2, pu3]
  refine wpAnyU_pure (i := 1) (d := (some 26)) (v := ?_) rfl rfl (by kernel_rfl) (fun _ _ _ h => h) hSu.out (Or.inl ⟨by rfl, fun w' _ => yu_value ?_⟩) ?_
  rotate_left
  · (go_simp; (try exact rfl))
  try simp only [Act.put, pu1, pu2, pu3]
  refine wpAnyU_take (i := 2) (d := (some 27)) (v := _) rfl rfl (by kernel_rfl) (fun _ _ _ h => h) hSu.out hSS (Or.inl ⟨by rfl, fun w' hSw => yu_call ?_ (HL1.out _)⟩) ?_
  · go_simp
  try simp only [Act.put, pu1, pu2, pu3]
  refine wpAnyU_take (i := 3) (d := (some 28)) (v := _) rfl rfl (by kernel_rfl) (fun _ _ _ h => h) hSu.out hSS (Or.inl ⟨by rfl, fun w' hSw => yu_value (run_ld undW infoW _ rfl _ rfl hSw.2.1)⟩) ?_
  try simp only [Act.put, pu1, pu2, pu3]
  refine wpAnyU_pure (i := 4) (d := (some 29)) (v := ?_) rfl rfl (by kernel_rfl) (fun _ _ _ h => h) hSu.out (Or.inl ⟨by rfl, fun w' _ => yu_value ?_⟩) ?_
  rotate_left
  · (go_simp; (try exact rfl))
  try simp only [Act.put, pu1, pu2, pu3]
  refine wpAnyU_take (i := 5) (d := (some 30)) (v := _) rfl rfl (by kernel_rfl) (fun _ _ _ h => h) hSu.out hSS (Or.inl ⟨by rfl, fun w' hSw => yu_call ?_ (HL2.out _)⟩) ?_
  · go_simp
  try simp only [Act.put, pu1, pu2, pu3]
  refine wpAnyU_alloc2L (i := 6) (j := 7) (di := 9) (dj := 10) rfl rfl rfl rfl (by decide) rfl rfl rfl rfl (by kernel_rfl) (by kernel_rfl) (by kernel_rfl) (by decide) hSu.out fun w3 p q hw3 hp hq hpq hpl hql => ?_
  try simp only [Act.put, pu1, pu2, pu3]
  have l3 := hS3.lt
  have l4 := hS4.lt
  have lB := hSB.size
  refine wpAnyU_one (i := 8) rfl (by kernel_rfl) (by rfl) fun w4 hw4 => ?_
  refine wp_st_rowN infoL rfl _ _ rfl _ rfl rfl (hp.up hw4) ?_
  refine ⟨fun h => by simp at h, ?_⟩
  try simp only [Act.put, pu1, pu2, pu3]
  refine wpAnyU_one (i := 9) rfl (by kernel_rfl) (by rfl) fun w5 hw5 => ?_
  refine wp_st_rowN infoL rfl _ _ rfl _ rfl rfl (((hq.up hw4).row_other _ (Ne.symm hpq)).up hw5) ?_
  refine ⟨fun h => by simp at h, ?_⟩
  try simp only [Act.put, pu1, pu2, pu3]
  refine wpAnyU_done (by kernel_rfl) (fun wF huE => ?_) _
  have g3 := (((((hS3.up hw3).up hw4).row_other (cells 17 (limb (x * 2 ^ s))) (show w.heap.size + 1 + 1 ≠ p by omega)).up hw5).row_other (cells 17 (limb (y * 2 ^ s))) (show w.heap.size + 1 + 1 ≠ q by omega)).up huE
  have g4 := (((((hS4.up hw3).up hw4).row_other (cells 17 (limb (x * 2 ^ s))) (show w.heap.size + 1 + 1 + 1 ≠ p by omega)).up hw5).row_other (cells 17 (limb (y * 2 ^ s))) (show w.heap.size + 1 + 1 + 1 ≠ q by omega)).up huE
  have gp : Row wF p 210 17 (limb (x * 2 ^ s)) := ((((hp.up hw4).setRow _).up hw5).row_other (cells 17 (limb (y * 2 ^ s))) hpq).up huE
  have gq : Row wF q 210 17 (limb (y * 2 ^ s)) := ((((hq.up hw4).row_other (cells 17 (limb (x * 2 ^ s))) (Ne.symm hpq)).up hw5).setRow _).up huE
  have gB := below_up (below_setRow (below_up (below_setRow (below_up (below_up hSB hw3) hw4) (show w.heap.size ≤ p by omega) (cells 17 (limb (x * 2 ^ s)))) hw5) (show w.heap.size ≤ q by omega) (cells 17 (limb (y * 2 ^ s)))) huE
  have lp : w.heap.size + 1 + 1 + 1 < p := by omega
  have lq : w.heap.size + 1 + 1 + 1 < q := by omega
  clear hS1 hS2 hS3 hS4 hSB hSS hw3 hw4 hw5 huE hp hq hpl hql l3 l4 lB HL1 HL2
  have l1 := gp.lt
  have l2 := gq.lt
  have l5 := gB.size
  go_upto_block 0 with (fail)
  try simp only [Act.put]
  refine wp_worldD (fun wd => Row wd (w.heap.size + 1 + 1) 33 16 (fun _ => 0) ∧ Row wd (w.heap.size + 1 + 1 + 1) 33 16 (fun _ => 0) ∧ Row wd p 210 17 (limb (x * 2 ^ s)) ∧ Row wd q 210 17 (limb (y * 2 ^ s)) ∧ Row wd wF.heap.size 33 16 (fun _ => 0) ∧ Below w.heap.size w wd) ⟨gRow, gRow, gRow, gRow, gRow, gUp⟩ (fun w0 hD => ?_)
  clear g3 g4 gp gq gB
  obtain ⟨g3, g4, gp, gq, gT, gB⟩ := hD
  have lt : p < wF.heap.size ∧ q < wF.heap.size := ⟨l1, l2⟩
  clear l1 l2 l5
  generalize wF.heap.size = t at *
  clear enm em1 es
  obtain ⟨P, hP⟩ : ∃ P, y * 2 ^ s = P := ⟨_, rfl⟩
  obtain ⟨X2, hX2⟩ : ∃ X2, x * 2 ^ s = X2 := ⟨_, rfl⟩
  have HP := hid hP
  have HX2 := hid hX2
  rw [hP] at HP1 HP2 gq
  rw [hX2] at gp
  clear hP hX2
  have hPm : sumL (limb P) m = P := by rw [sumL_limb, Nat.mod_eq_of_lt HP1.out]
  have HPm := hid hPm
  have hP0 : 0 < P := by have := HP2.out; have := bp_pos (m - 1); omega
  have HP0 := hid hP0
  clear hPm hP0
  go_wp2_with fail
  go_loopw [12] (fun ti wr => ∃ (k : Nat) (S T : Nat → Nat), k ≤ n - m + 1 ∧ ti = .int .i64 ((k : Int) - 1) ∧ (∀ j, j < 17 → S j < 18446744073709551616) ∧ (∀ j, j < 16 → T j < 18446744073709551616) ∧ (∀ j, j < k → T j = 0) ∧ X2 = sumL T 16 * P + sumL S 17 ∧ sumL S 17 < P * bp k ∧
      Row wr (w.heap.size + 1 + 1) 33 16 (fun _ => 0) ∧ Row wr (w.heap.size + 1 + 1 + 1) 33 16 (fun _ => 0) ∧ Row wr p 210 17 S ∧ Row wr q 210 17 (limb P) ∧ Row wr t 33 16 T ∧ Below w.heap.size w wr)
    (fun ti _ => (intOf ti + 1).toNat)
  case atStart =>
    refine ⟨n - m + 1, limb X2, fun _ => 0, Nat.le_refl _, ?_, fun j _ => limb_lt _ j, fun _ _ => by simp, fun _ _ => rfl, ?_, ?_, g3, g4, gp, gq, gT, gB⟩
    · congr 1; omega
    · have h1 := Hn.out
      have h2 := HX2.out
      have h3 := bp_mono hn16
      have h4 := bp_succ 16
      have h5 : 2 ^ s ≤ 18446744073709551616 := Nat.pow_le_pow_right (n := 2) (by decide) (show s ≤ 64 by omega)
      have h6 : x * 2 ^ s < bp 16 * 18446744073709551616 := Nat.mul_lt_mul_of_lt_of_le (by omega) h5 (by decide)
      rw [sumL_zeros, sumL_limb, Nat.mod_eq_of_lt (by rw [h4]; omega)]
      omega
    · have h1 := Hn.out
      have h2 := HX2.out
      have h7 := HP2.out
      have h5 : 2 ^ s ≤ 9223372036854775808 := Nat.pow_le_pow_right (n := 2) (by decide) (show s ≤ 63 by omega)
      have h6 : x * 2 ^ s < bp n * 9223372036854775808 := Nat.mul_lt_mul_of_lt_of_le h1 h5 (by decide)
      have h8 : 9223372036854775808 * bp (m - 1) * bp (n - m + 1) ≤ P * bp (n - m + 1) := Nat.mul_le_mul_right _ h7
      rw [Nat.mul_assoc, ← bp_add, show m - 1 + (n - m + 1) = n by omega] at h8
      have h9 := Nat.mod_le X2 (bp 17)
      rw [sumL_limb]
      omega
  case round =>
    clear g3 g4 gp gq gT gB
    obtain ⟨k, S, T, hk, rfl, hS, hT, hT0, hX, hR, g3, g4, gp, gq, gT, gB⟩ := hrel
    have HS := hid hS
    have HT := hid hT
    have HT0 := hid hT0
    have HX := hid hX
    have HR := hid hR
    clear hS hT hT0 hX hR
    rcases Nat.eq_zero_or_pos k with hk0 | hk0
    · subst hk0
      have hE : sumL T 16 = x / y ∧ sumL S 17 / 2 ^ s % bp 16 = x % y := by
        have h1 := HX.out
        have h2 := HR.out
        rw [bp_zero, Nat.mul_one] at h2
        rw [← HX2.out, ← HP.out] at h1
        rw [← HP.out] at h2
        obtain ⟨h3, h4⟩ := long_end hy0.out h1 h2
        refine ⟨h3, ?_⟩
        rw [h4]
        exact Nat.mod_eq_of_lt (Nat.lt_of_le_of_lt (Nat.mod_le _ _) Hx.out)
      have hTl : ∀ j, j < 16 → T j = limb (x / y) j := fun j hj => by rw [← hE.1]; exact (limb_sumL HT.out hj).symm
      have gT2 : Row wr t 33 16 (limb (x / y)) := gT.congr hTl
      have hRt := fun w => right_any S HS.out s hs64 w
      rw [hE.2] at hRt
      unfold longV wideV at hRt
      have HRt := hid hRt
      clear hE hTl hRt gT
      go_wp2_with fail
      refine wp_region_upH (S := (fun wq => Row wq (w.heap.size + 1 + 1) 33 16 (fun _ => 0) ∧ Row wq (w.heap.size + 1 + 1 + 1) 33 16 (fun _ => 0) ∧ Row wq p 210 17 S ∧ Row wq t 33 16 (limb (x / y)) ∧ Below w.heap.size w wq)) (req := (fun j => j != 4 && j != 5)) (by kernel_rfl) (fun _ _ h hu => ⟨(h.1).up hu, (h.2.1).up hu, (h.2.2.1).up hu, (h.2.2.2.1).up hu, below_up (h.2.2.2.2) hu⟩) ⟨gRow, gRow, gRow, gRow, gUp⟩ (fun wS hSS hSu => ?_)
      have ⟨hS1, hS2, hS3, hS4, hSB⟩ := hSS
      clear g3 g4 gp gq gT2 gB
      refine wpAnyU_take (i := 0) (d := (some 80)) (v := _) rfl rfl (by kernel_rfl) (fun _ _ _ h => h) hSu.out hSS (Or.inl ⟨by rfl, fun w' hSw => yu_value (run_ld undW infoW _ rfl _ rfl hSw.2.2.2.1)⟩) ?_
      try simp only [Act.put, pu1, pu2, pu3]
      refine wpAnyU_take (i := 1) (d := (some 81)) (v := _) rfl rfl (by kernel_rfl) (fun _ _ _ h => h) hSu.out hSS (Or.inl ⟨by rfl, fun w' hSw => yu_value (run_ld undL infoL _ rfl _ rfl hSw.2.2.1)⟩) ?_
      try simp only [Act.put, pu1, pu2, pu3]
      refine wpAnyU_pure (i := 2) (d := (some 82)) (v := ?_) rfl rfl (by kernel_rfl) (fun _ _ _ h => h) hSu.out (Or.inl ⟨by rfl, fun w' _ => yu_value ?_⟩) ?_
      rotate_left
      · (go_simp; (try exact rfl))
      try simp only [Act.put, pu1, pu2, pu3]
      refine wpAnyU_take (i := 3) (d := (some 83)) (v := _) rfl rfl (by kernel_rfl) (fun _ _ _ h => h) hSu.out hSS (Or.inl ⟨by rfl, fun w' hSw => yu_call ?_ (HRt.out _)⟩) ?_
      · go_simp
      try simp only [Act.put, pu1, pu2, pu3]
      refine wpAnyU_one (i := 4) rfl (by kernel_rfl) (by rfl) fun w4 hw4 => ?_
      refine wp_st_rowN infoW rfl _ _ rfl _ rfl rfl ((hS1.up hw4)) ?_
      refine ⟨fun h => by simp at h, ?_⟩
      try simp only [Act.put, pu1, pu2, pu3]
      refine wpAnyU_one (i := 5) rfl (by kernel_rfl) (by rfl) fun w5 hw5 => ?_
      refine wp_st_rowN infoW rfl _ _ rfl _ rfl rfl ((((hS2.up hw4).row_other _ (show w.heap.size + 1 + 1 + 1 ≠ w.heap.size + 1 + 1 by omega)).up hw5)) ?_
      refine ⟨fun h => by simp at h, ?_⟩
      try simp only [Act.put, pu1, pu2, pu3]
      refine wpAnyU_done (by kernel_rfl) (fun wF huE => ?_) _
      have ga : Row wF (w.heap.size + 1 + 1) 33 16 (limb (x / y)) := ((((hS1.up hw4).setRow _).up hw5).row_other (cells 16 (limb (x % y))) (show w.heap.size + 1 + 1 ≠ w.heap.size + 1 + 1 + 1 by omega)).up huE
      have gb : Row wF (w.heap.size + 1 + 1 + 1) 33 16 (limb (x % y)) := ((((hS2.up hw4).row_other (cells 16 (limb (x / y))) (show w.heap.size + 1 + 1 + 1 ≠ w.heap.size + 1 + 1 by omega)).up hw5).setRow _).up huE
      have gB := below_up (below_setRow (below_up (below_setRow (below_up hSB hw4) (show w.heap.size ≤ w.heap.size + 1 + 1 by omega) (cells 16 (limb (x / y)))) hw5) (show w.heap.size ≤ w.heap.size + 1 + 1 + 1 by omega) (cells 16 (limb (x % y)))) huE
      clear hS1 hS2 hS3 hS4 hSB hSS hw4 hw5 huE
      go_wp2_with fail
      exact bodyPost_ret (resCC rfl undW infoW _ _ _ rfl rfl ga gb) rfl ⟨rfl, gB⟩
    · obtain ⟨i, rfl⟩ : ∃ i, k = i + 1 := ⟨k - 1, by omega⟩
      rw [show ((i + 1 : Nat) : Int) - 1 = (i : Nat) by omega]
      have him : i + m < 17 := by omega
      have hm1 : m = m1 + 1 := by have := Hm1.out; omega
      have HM := hid hm1
      have him1 : i + m1 < 17 := by omega
      have e1 : IntKind.i64.wrap ((i : Int) + (m : Int)) = (i : Int) + (m : Int) := IntWalk.i64_in _ (by omega)
      have e2 : IntKind.i64.wrap ((i : Int) + (m : Int) - 1) = (i : Int) + (m1 : Int) := by rw [IntWalk.i64_in _ (by omega)]; omega
      have e3 : IntKind.i64.wrap ((m : Int) - 1) = (m1 : Int) := by rw [IntWalk.i64_in _ (by omega)]; omega
      have e4 : ((i : Int) + (m : Int)).toNat = i + m := by omega
      have e5 : ((i : Int) + (m1 : Int)).toNat = i + m1 := by omega
      have j1 : (i : Int) + (m : Int) < 17 := by omega
      have j2 : (0 : Int) ≤ (i : Int) + (m : Int) := by omega
      have j3 : (i : Int) + (m1 : Int) < 17 := by omega
      have j4 : (0 : Int) ≤ (i : Int) + (m1 : Int) := by omega
      have j5 : (m1 : Int) < 17 := by omega
      have e6 : IntKind.i64.wrap ((i : Int) + (m : Int) + 1) = (i : Int) + (m : Int) + 1 := IntWalk.i64_in _ (by omega)
      have hgs := fun w => guess_any (S (i + m)) (S (i + m1)) (limb P m1) (HS.out _ him) (HS.out _ him1) (limb_lt _ _) w
      have hgl := guess_lt (h := S (i + m)) (y := limb P m1) (HS.out _ him1)
      obtain ⟨g, hg⟩ : ∃ g, guessN (S (i + m)) (S (i + m1)) (limb P m1) = g := ⟨_, rfl⟩
      rw [hg] at hgs hgl
      have HG := hid hgs
      have Hg := hid hg
      have HGL := hid hgl
      clear hgs hg hgl hm1
      have c1 := gp.cell (i + m) him
      have c2 := gp.cell (i + m1) him1
      have c3 := gq.cell m1 (by omega)
      go_wp2_with fail
      refine wp_region_upH (S := (fun wq => Row wq (w.heap.size + 1 + 1) 33 16 (fun _ => 0) ∧ Row wq (w.heap.size + 1 + 1 + 1) 33 16 (fun _ => 0) ∧ Row wq p 210 17 S ∧ Row wq q 210 17 (limb P) ∧ Row wq t 33 16 T ∧ wq.cell? ⟨p, i + m, none⟩ = some (.int .u64 (S (i + m) : Nat)) ∧ wq.cell? ⟨p, i + m1, none⟩ = some (.int .u64 (S (i + m1) : Nat)) ∧ wq.cell? ⟨q, m1, none⟩ = some (.int .u64 (limb P m1 : Nat)) ∧ Below w.heap.size w wq)) (req := (fun _ => true)) (by kernel_rfl) (fun _ _ h hu => ⟨(h.1).up hu, (h.2.1).up hu, (h.2.2.1).up hu, (h.2.2.2.1).up hu, (h.2.2.2.2.1).up hu, hu.cell (h.2.2.2.2.2.1), hu.cell (h.2.2.2.2.2.2.1), hu.cell (h.2.2.2.2.2.2.2.1), below_up (h.2.2.2.2.2.2.2.2) hu⟩) ⟨gRow, gRow, gRow, gRow, gRow, (by first | assumption | (apply Blk.cell; exact gBlk; exact rfl)), (by first | assumption | (apply Blk.cell; exact gBlk; exact rfl)), (by first | assumption | (apply Blk.cell; exact gBlk; exact rfl)), gUp⟩ (fun wS hSS hSu => ?_)
      have ⟨hS1, hS2, hS3, hS4, hS5, hS6, hS7, hS8, hSB⟩ := hSS
      clear g3 g4 gp gq gT gB c1 c2 c3
      refine wpAnyU_pure (i := 0) (d := (some 38)) (v := ?_) rfl rfl (by kernel_rfl) (fun _ _ _ h => h) hSu.out (Or.inl ⟨by rfl, fun w' _ => yu_value ?_⟩) ?_
      rotate_left
      · (go_simp; (try exact rfl))
      try simp only [Act.put, pu1, pu2, pu3]
      refine wpAnyU_pure (i := 1) (d := (some 39)) (v := ?_) rfl rfl (by kernel_rfl) (fun _ _ _ h => h) hSu.out (Or.inl ⟨by rfl, fun w' _ => yu_value ?_⟩) ?_
      rotate_left
      · (go_simp; (try exact rfl))
      try simp only [Act.put, pu1, pu2, pu3]
      refine wpAnyU_pure (i := 2) (d := (some 40)) (v := ?_) rfl rfl (by kernel_rfl) (fun _ _ _ h => h) hSu.out (Or.inl ⟨by rfl, fun w' _ => yu_value ?_⟩) ?_
      rotate_left
      · (go_simp; (try exact rfl))
      try simp only [Act.put, pu1, pu2, pu3]
      refine wpAnyU_pure (i := 3) (d := (some 41)) (v := ?_) rfl rfl (by kernel_rfl) (fun _ _ _ h => h) hSu.out (Or.inl ⟨by rfl, fun w' _ => yu_value ?_⟩) ?_
      rotate_left
      · (go_simp; (try exact rfl))
      try simp only [Act.put, pu1, pu2, pu3]
      refine wpAnyU_take (i := 4) (d := (some 42)) (v := ?_) rfl rfl (by kernel_rfl) (fun _ _ _ h => h) hSu.out hSS (Or.inl ⟨by rfl, fun w' hSw => yu_value ?_⟩) ?_
      rotate_left
      · ((try dsimp only at hSw); (try obtain ⟨_, _, _, _, _, _, _, _, _⟩ := hSw); go_simp; (try exact rfl))
      try simp only [Act.put, pu1, pu2, pu3]
      refine wpAnyU_pure (i := 5) (d := (some 43)) (v := ?_) rfl rfl (by kernel_rfl) (fun _ _ _ h => h) hSu.out (Or.inl ⟨by rfl, fun w' _ => yu_value ?_⟩) ?_
      rotate_left
      · (go_simp; (try exact rfl))
      try simp only [Act.put, pu1, pu2, pu3]
      refine wpAnyU_pure (i := 6) (d := (some 44)) (v := ?_) rfl rfl (by kernel_rfl) (fun _ _ _ h => h) hSu.out (Or.inl ⟨by rfl, fun w' _ => yu_value ?_⟩) ?_
      rotate_left
      · (go_simp; (try exact rfl))
      try simp only [Act.put, pu1, pu2, pu3]
      refine wpAnyU_pure (i := 7) (d := (some 45)) (v := ?_) rfl rfl (by kernel_rfl) (fun _ _ _ h => h) hSu.out (Or.inl ⟨by rfl, fun w' _ => yu_value ?_⟩) ?_
      rotate_left
      · (go_simp; (try exact rfl))
      try simp only [Act.put, pu1, pu2, pu3]
      refine wpAnyU_pure (i := 8) (d := (some 46)) (v := ?_) rfl rfl (by kernel_rfl) (fun _ _ _ h => h) hSu.out (Or.inl ⟨by rfl, fun w' _ => yu_value ?_⟩) ?_
      rotate_left
      · (go_simp; (try exact rfl))
      try simp only [Act.put, pu1, pu2, pu3]
      refine wpAnyU_pure (i := 9) (d := (some 47)) (v := ?_) rfl rfl (by kernel_rfl) (fun _ _ _ h => h) hSu.out (Or.inl ⟨by rfl, fun w' _ => yu_value ?_⟩) ?_
      rotate_left
      · (go_simp; (try exact rfl))
      try simp only [Act.put, pu1, pu2, pu3]
      refine wpAnyU_take (i := 10) (d := (some 48)) (v := ?_) rfl rfl (by kernel_rfl) (fun _ _ _ h => h) hSu.out hSS (Or.inl ⟨by rfl, fun w' hSw => yu_value ?_⟩) ?_
      rotate_left
      · ((try dsimp only at hSw); (try obtain ⟨_, _, _, _, _, _, _, _, _⟩ := hSw); go_simp; (try exact rfl))
      try simp only [Act.put, pu1, pu2, pu3]
      refine wpAnyU_pure (i := 11) (d := (some 49)) (v := ?_) rfl rfl (by kernel_rfl) (fun _ _ _ h => h) hSu.out (Or.inl ⟨by rfl, fun w' _ => yu_value ?_⟩) ?_
      rotate_left
      · (go_simp; (try exact rfl))
      try simp only [Act.put, pu1, pu2, pu3]
      refine wpAnyU_pure (i := 12) (d := (some 50)) (v := ?_) rfl rfl (by kernel_rfl) (fun _ _ _ h => h) hSu.out (Or.inl ⟨by rfl, fun w' _ => yu_value ?_⟩) ?_
      rotate_left
      · (go_simp; (try exact rfl))
      try simp only [Act.put, pu1, pu2, pu3]
      refine wpAnyU_pure (i := 13) (d := (some 51)) (v := ?_) rfl rfl (by kernel_rfl) (fun _ _ _ h => h) hSu.out (Or.inl ⟨by rfl, fun w' _ => yu_value ?_⟩) ?_
      rotate_left
      · (go_simp; (try exact rfl))
      try simp only [Act.put, pu1, pu2, pu3]
      refine wpAnyU_take (i := 14) (d := (some 52)) (v := ?_) rfl rfl (by kernel_rfl) (fun _ _ _ h => h) hSu.out hSS (Or.inl ⟨by rfl, fun w' hSw => yu_value ?_⟩) ?_
      rotate_left
      · ((try dsimp only at hSw); (try obtain ⟨_, _, _, _, _, _, _, _, _⟩ := hSw); go_simp; (try exact rfl))
      try simp only [Act.put, pu1, pu2, pu3]
      refine wpAnyU_take (i := 15) (d := (some 53)) (v := _) rfl rfl (by kernel_rfl) (fun _ _ _ h => h) hSu.out hSS (Or.inl ⟨by rfl, fun w' hSw => yu_call ?_ (HG.out _)⟩) ?_
      · go_simp
      try simp only [Act.put, pu1, pu2, pu3]
      refine wpAnyU_pure (i := 16) (d := (some 13)) (v := ?_) rfl rfl (by kernel_rfl) (fun _ _ _ h => h) hSu.out (Or.inl ⟨by rfl, fun w' _ => yu_value ?_⟩) ?_
      rotate_left
      · (go_simp; (try exact rfl))
      try simp only [Act.put, pu1, pu2, pu3]
      refine wpAnyU_done (by kernel_rfl) (fun wF huE => ?_) _
      have g3 := hS1.up huE
      have g4 := hS2.up huE
      have gp := hS3.up huE
      have gq := hS4.up huE
      have gT := hS5.up huE
      have gB := below_up hSB huE
      clear hS1 hS2 hS3 hS4 hS5 hS6 hS7 hS8 hSB hSS huE
      go_wp2_with fail
      refine wp_region_upH (S := (fun wq => Row wq (w.heap.size + 1 + 1) 33 16 (fun _ => 0) ∧ Row wq (w.heap.size + 1 + 1 + 1) 33 16 (fun _ => 0) ∧ Row wq p 210 17 S ∧ Row wq q 210 17 (limb P) ∧ Row wq t 33 16 T ∧ Below w.heap.size w wq)) (req := (fun j => j != 9)) (by kernel_rfl) (fun _ _ h hu => ⟨(h.1).up hu, (h.2.1).up hu, (h.2.2.1).up hu, (h.2.2.2.1).up hu, (h.2.2.2.2.1).up hu, below_up (h.2.2.2.2.2) hu⟩) ⟨gRow, gRow, gRow, gRow, gRow, gUp⟩ (fun wS hSS hSu => ?_)
      have ⟨hS1, hS2, hS3, hS4, hS5, hSB⟩ := hSS
      clear g3 g4 gp gq gT gB
      have sl1 := fun w' => slice_win (p := p) him w'
      have sl2 := fun w' => slice_low (q := q) (m := m) (by omega) w'
      refine wpAnyU_pure (i := 0) (d := (some 54)) (v := ?_) rfl rfl (by kernel_rfl) (fun _ _ _ h => h) hSu.out (Or.inl ⟨by rfl, fun w' _ => yu_value ?_⟩) ?_
      rotate_left
      · (go_simp; (try exact rfl))
      try simp only [Act.put, pu1, pu2, pu3]
      refine wpAnyU_pure (i := 1) (d := (some 55)) (v := ?_) rfl rfl (by kernel_rfl) (fun _ _ _ h => h) hSu.out (Or.inl ⟨by rfl, fun w' _ => yu_value ?_⟩) ?_
      rotate_left
      · (go_simp; (try exact rfl))
      try simp only [Act.put, pu1, pu2, pu3]
      refine wpAnyU_pure (i := 2) (d := (some 56)) (v := ?_) rfl rfl (by kernel_rfl) (fun _ _ _ h => h) hSu.out (Or.inl ⟨by rfl, fun w' _ => yu_value ?_⟩) ?_
      rotate_left
      · (go_simp; (try exact rfl))
      try simp only [Act.put, pu1, pu2, pu3]
      refine wpAnyU_pure (i := 3) (d := (some 57)) (v := ?_) rfl rfl (by kernel_rfl) (fun _ _ _ h => h) hSu.out (Or.inl ⟨by rfl, fun w' _ => yu_value ?_⟩) ?_
      rotate_left
      · (go_simp; (try exact rfl))
      try simp only [Act.put, pu1, pu2, pu3]
      refine wpAnyU_pure (i := 4) (d := (some 58)) (v := ?_) rfl rfl (by kernel_rfl) (fun _ _ _ h => h) hSu.out (Or.inl ⟨by rfl, fun w' _ => yu_value ?_⟩) ?_
      rotate_left
      · (go_simp; (try exact rfl))
      try simp only [Act.put, pu1, pu2, pu3]
      refine wpAnyU_pure (i := 5) (d := (some 59)) (v := ?_) rfl rfl (by kernel_rfl) (fun _ _ _ h => h) hSu.out (Or.inl ⟨by rfl, fun w' _ => yu_value ?_⟩) ?_
      rotate_left
      · (go_simp; (try exact rfl))
      try simp only [Act.put, pu1, pu2, pu3]
      refine wpAnyU_pure (i := 6) (d := (some 60)) (v := ?_) rfl rfl (by kernel_rfl) (fun _ _ _ h => h) hSu.out (Or.inl ⟨by rfl, fun w' _ => yu_value ?_⟩) ?_
      rotate_left
      · (go_simp; (try exact rfl))
      try simp only [Act.put, pu1, pu2, pu3]
      refine wpAnyU_pure (i := 7) (d := (some 61)) (v := ?_) rfl rfl (by kernel_rfl) (fun _ _ _ h => h) hSu.out (Or.inl ⟨by rfl, fun w' _ => yu_value ?_⟩) ?_
      rotate_left
      · (go_simp; (try exact rfl))
      try simp only [Act.put, pu1, pu2, pu3]
      refine wpAnyU_pure (i := 8) (d := (some 62)) (v := ?_) rfl rfl (by kernel_rfl) (fun _ _ _ h => h) hSu.out (Or.inl ⟨by rfl, fun w' _ => yu_value ?_⟩) ?_
      rotate_left
      · (go_simp; (try exact rfl))
      try simp only [Act.put, pu1, pu2, pu3]
      refine wpAnyU_callN (i := 9) (d := some 63) (f := 156) (args := #[.slice (some ⟨p, i, none⟩) (m + 1) (17 - i), .slice (some ⟨q, 0, none⟩) m 17, .int .u64 (g : Nat)]) (R := fun w' v w'' => ∃ (S' : Nat → Nat) (b : Nat), v = .bool (decide (b ≠ 0)) ∧ b ≤ 1 ∧ sumL (fun j => S' (i + j)) (m + 1) + g * P = sumL (fun j => S (i + j)) (m + 1) + b * bp (m + 1) ∧ (∀ j, j < i ∨ i + m < j → S' j = S j) ∧ (∀ j, j < 17 → S' j < 18446744073709551616) ∧ Row w'' p 210 17 S' ∧ Near p w' w'') rfl rfl (by kernel_rfl) (by rfl) rfl (fun w' => by go_simp) (fun w' hw' => ?_) (fun w1 v w2 hw1 hR1 => ?_)
      · refine (take_off p i m q (17 - i) 17 g S (limb P) HS.out (fun j _ => limb_lt _ j) hpq him HGL.out w' (hS3.up hw') (hS4.up hw')).mono ?_
        rintro e w'' ⟨S', b, rfl, h1, h2, h3, h4, h5, h6⟩
        rw [HPm.out] at h2
        exact ⟨_, rfl, S', b, rfl, h1, h2, h3, h4, h5, h6⟩
      try simp only [Act.put, pu1, pu2, pu3]
      obtain ⟨S1, b, rfl, hb, he, ho, hl, gp, hN⟩ := hR1
      have He := hid he
      have Ho := hid ho
      have Hl := hid hl
      clear he ho hl
      refine wpAnyU_pure (i := 10) (d := (some 14)) (v := ?_) rfl rfl (by kernel_rfl) (fun _ _ _ h => h) hSu.out (Or.inl ⟨by rfl, fun w' _ => yu_value ?_⟩) ?_
      rotate_left
      · (go_simp; (try exact rfl))
      try simp only [Act.put, pu1, pu2, pu3]
      refine wpAnyU_done (by kernel_rfl) (fun wF huE => ?_) _
      have l1 := (hSB.size : w.heap.size ≤ wS.heap.size)
      have l2 := hw1.size
      have g3 := (hN.row (show w.heap.size + 1 + 1 ≠ p by omega) (hS1.up hw1)).up huE
      have g4 := (hN.row (show w.heap.size + 1 + 1 + 1 ≠ p by omega) (hS2.up hw1)).up huE
      have gq := (hN.row (Ne.symm hpq) (hS4.up hw1)).up huE
      have gT := (hN.row (show t ≠ p by omega) (hS5.up hw1)).up huE
      have gB := below_up (hN.below (show w.heap.size ≤ p by omega) (below_up hSB hw1) (by omega)) huE
      replace gp := gp.up huE
      clear hS1 hS2 hS3 hS4 hS5 hSB hSS huE hw1 hN l1 l2
      obtain ⟨W, hW⟩ : ∃ W, sumL (fun j => S (i + j)) (m + 1) = W := ⟨_, rfl⟩
      have HW := hid hW
      have hq0 : W / P ≤ g := by
        have h1 := HR.out
        have h2 : m = m1 + 1 := HM.out
        have h3 : W < P * 18446744073709551616 := by
          have h4 : W * bp i ≤ sumL S 17 := by
            obtain ⟨d, hd⟩ : ∃ d, 17 = i + (m + 1) + d := ⟨17 - (i + (m + 1)), by omega⟩
            rw [hd, sumL_split, sumL_split, hW]
            omega
          rw [bp_succ] at h1
          have h5 : W * bp i < P * 18446744073709551616 * bp i := by
            have e : P * 18446744073709551616 * bp i = P * (bp i * 18446744073709551616) := by grind
            omega
          exact Nat.lt_of_mul_lt_mul_right h5
        have h6 := guess_ge (F := fun j => S (i + j)) (V := limb P) (m := m1) (P := P) (W := W) (fun j hj => HS.out _ (by omega)) (by show sumL (fun j => S (i + j)) (m1 + 1 + 1) = W; rw [← h2]; exact hW) (by rw [← h2]; exact HPm.out) HP0.out h3
        rw [← h2, Hg.out] at h6
        exact h6
      have he := He.out
      rw [hW] at he
      clear He
      have He := hid he
      have Hq0 := hid hq0
      clear hW he hq0
      go_wp2_with fail
      go_loopw [13, 14] (fun tg tv wr => ∃ (g b : Nat) (S1 : Nat → Nat), tg = .int .u64 (g : Nat) ∧ tv = .bool (!decide (b = 0)) ∧ b ≤ 1 ∧ g < 18446744073709551616 ∧ W / P ≤ g ∧ sumL (fun j => S1 (i + j)) (m + 1) + g * P = W + b * bp (m + 1) ∧ (∀ j, j < i ∨ i + m < j → S1 j = S j) ∧ (∀ j, j < 17 → S1 j < 18446744073709551616) ∧
          Row wr (w.heap.size + 1 + 1) 33 16 (fun _ => 0) ∧ Row wr (w.heap.size + 1 + 1 + 1) 33 16 (fun _ => 0) ∧ Row wr p 210 17 S1 ∧ Row wr q 210 17 (limb P) ∧ Row wr t 33 16 T ∧ Below w.heap.size w wr)
        (fun tg _ _ => (intOf tg).toNat)
      case atStart => exact ⟨g, b, S1, rfl, rfl, hb, HGL.out, Hq0.out, He.out, Ho.out, Hl.out, g3, g4, gp, gq, gT, gB⟩
      case round =>
        clear g3 g4 gp gq gT gB He Ho Hl Hq0 hb Hg HGL HG S1
        obtain ⟨g, b, S1, rfl, rfl, hb, hgl, hq0, he, ho, hl, g3, g4, gp, gq, gT, gB⟩ := hrel
        have He := hid he
        have Ho := hid ho
        have Hl := hid hl
        have Hq0 := hid hq0
        have Hgl := hid hgl
        clear he ho hl hq0 hgl
        rcases (show b = 0 ∨ b = 1 by omega) with rfl | rfl
        · have he := He.out
          rw [Nat.zero_mul, Nat.add_zero] at he
          obtain ⟨hlt, hgq⟩ := round_end he Hq0.out HP0.out
          have hR2 := HR.out
          have hR3 : sumL S 17 < bp (i + m + 1) := by
            have h1 := HP1.out
            have h2 : P * bp (i + 1) ≤ bp m * bp (i + 1) := Nat.mul_le_mul_right _ (Nat.le_of_lt h1)
            rw [← bp_add, show m + (i + 1) = i + m + 1 by omega] at h2
            omega
          obtain ⟨hX1, hX3⟩ := long_step him (by omega) HS.out HX.out (HT0.out i (by omega)) hR3 HW.out rfl Ho.out he hlt
          have HX1 := hid hX1
          have HX3 := hid hX3
          have e7 : IntKind.i64.wrap ((i : Int) - 1) = (i : Int) - 1 := IntWalk.i64_in _ (by omega)
          have hi16 : (i : Int) < 16 := by omega
          have hct := gT.cell i (by omega)
          have hft := gT.frozen i
          have gT1 := gT.set i g
          have lt1 := lt.1
          have gp1 := gp.other ⟨t, i, none⟩ (.int .u64 (g : Nat)) (show p ≠ t by omega)
          have gq1 := gq.other ⟨t, i, none⟩ (.int .u64 (g : Nat)) (show q ≠ t by omega)
          have g31 := g3.other ⟨t, i, none⟩ (.int .u64 (g : Nat)) (show w.heap.size + 1 + 1 ≠ t by omega)
          have g41 := g4.other ⟨t, i, none⟩ (.int .u64 (g : Nat)) (show w.heap.size + 1 + 1 + 1 ≠ t by omega)
          have gB1 := gB.setCell (p := ⟨t, i, none⟩) (show w.heap.size ≤ t by omega) (.int .u64 (g : Nat))
          clear he hlt hgq hR2 hR3 hX1 hX3 g3 g4 gp gq gT gB
          go_wp2_with fail
          go_roundw
          case rel => exact ⟨i, S1, upd T i g, by omega, rfl, Hl.out, upd_lt HT.out Hgl.out, fun j hj => by rw [upd_other _ _ _ (by omega)]; exact HT0.out j (by omega), HX1.out, HX3.out, g31, g41, gp1, gq1, gT1, gB1⟩
          case measure => simp [intOf] <;> omega
        · have he := He.out
          rw [Nat.one_mul] at he
          have hW1 := sumL_lt (f := fun j => S1 (i + j)) (k := m + 1) fun j hj => Hl.out _ (by omega)
          obtain ⟨hg1, hq1⟩ := round_more he hW1 HP0.out
          obtain ⟨G, hG⟩ : ∃ G, g - 1 = G := ⟨_, rfl⟩
          rw [hG] at hq1
          have HGg := hid hG
          have HGq := hid hq1
          have HG1 := hid hg1
          have hgl := Hgl.out
          have eg : IntKind.u64.wrap ((g : Int) - 1) = (G : Nat) := by rw [IntKind.wrap_u64]; omega
          clear he hW1 hg1 hq1 hG hgl
          go_wp2_with fail
          refine wp_region_upH (S := (fun wq => Row wq (w.heap.size + 1 + 1) 33 16 (fun _ => 0) ∧ Row wq (w.heap.size + 1 + 1 + 1) 33 16 (fun _ => 0) ∧ Row wq p 210 17 S1 ∧ Row wq q 210 17 (limb P) ∧ Row wq t 33 16 T ∧ Below w.heap.size w wq)) (req := (fun j => j != 8)) (by kernel_rfl) (fun _ _ h hu => ⟨(h.1).up hu, (h.2.1).up hu, (h.2.2.1).up hu, (h.2.2.2.1).up hu, (h.2.2.2.2.1).up hu, below_up (h.2.2.2.2.2) hu⟩) ⟨gRow, gRow, gRow, gRow, gRow, gUp⟩ (fun wS hSS hSu => ?_)
          have ⟨hS1, hS2, hS3, hS4, hS5, hSB⟩ := hSS
          clear g3 g4 gp gq gT gB
          refine wpAnyU_pure (i := 0) (d := (some 67)) (v := ?_) rfl rfl (by kernel_rfl) (fun _ _ _ h => h) hSu.out (Or.inl ⟨by rfl, fun w' _ => yu_value ?_⟩) ?_
          rotate_left
          · (go_simp; (try exact rfl))
          try simp only [Act.put, pu1, pu2, pu3]
          refine wpAnyU_pure (i := 1) (d := (some 68)) (v := ?_) rfl rfl (by kernel_rfl) (fun _ _ _ h => h) hSu.out (Or.inl ⟨by rfl, fun w' _ => yu_value ?_⟩) ?_
          rotate_left
          · (go_simp; (try exact rfl))
          try simp only [Act.put, pu1, pu2, pu3]
          refine wpAnyU_pure (i := 2) (d := (some 69)) (v := ?_) rfl rfl (by kernel_rfl) (fun _ _ _ h => h) hSu.out (Or.inl ⟨by rfl, fun w' _ => yu_value ?_⟩) ?_
          rotate_left
          · (go_simp; (try exact rfl))
          try simp only [Act.put, pu1, pu2, pu3]
          refine wpAnyU_pure (i := 3) (d := (some 70)) (v := ?_) rfl rfl (by kernel_rfl) (fun _ _ _ h => h) hSu.out (Or.inl ⟨by rfl, fun w' _ => yu_value ?_⟩) ?_
          rotate_left
          · (go_simp; (try exact rfl))
          try simp only [Act.put, pu1, pu2, pu3]
          refine wpAnyU_pure (i := 4) (d := (some 71)) (v := ?_) rfl rfl (by kernel_rfl) (fun _ _ _ h => h) hSu.out (Or.inl ⟨by rfl, fun w' _ => yu_value ?_⟩) ?_
          rotate_left
          · (go_simp; (try exact rfl))
          try simp only [Act.put, pu1, pu2, pu3]
          refine wpAnyU_pure (i := 5) (d := (some 72)) (v := ?_) rfl rfl (by kernel_rfl) (fun _ _ _ h => h) hSu.out (Or.inl ⟨by rfl, fun w' _ => yu_value ?_⟩) ?_
          rotate_left
          · (go_simp; (try exact rfl))
          try simp only [Act.put, pu1, pu2, pu3]
          refine wpAnyU_pure (i := 6) (d := (some 73)) (v := ?_) rfl rfl (by kernel_rfl) (fun _ _ _ h => h) hSu.out (Or.inl ⟨by rfl, fun w' _ => yu_value ?_⟩) ?_
          rotate_left
          · (go_simp; (try exact rfl))
          try simp only [Act.put, pu1, pu2, pu3]
          refine wpAnyU_pure (i := 7) (d := (some 74)) (v := ?_) rfl rfl (by kernel_rfl) (fun _ _ _ h => h) hSu.out (Or.inl ⟨by rfl, fun w' _ => yu_value ?_⟩) ?_
          rotate_left
          · (go_simp; (try exact rfl))
          try simp only [Act.put, pu1, pu2, pu3]
          refine wpAnyU_callN (i := 8) (d := some 75) (f := 157) (args := #[.slice (some ⟨p, i, none⟩) (m + 1) (17 - i), .slice (some ⟨q, 0, none⟩) m 17]) (R := fun w' v w'' => ∃ (S' : Nat → Nat) (b : Nat), v = .bool (decide (b ≠ 0)) ∧ b ≤ 1 ∧ sumL (fun j => S' (i + j)) (m + 1) + b * bp (m + 1) = sumL (fun j => S1 (i + j)) (m + 1) + P ∧ (∀ j, j < i ∨ i + m < j → S' j = S1 j) ∧ (∀ j, j < 17 → S' j < 18446744073709551616) ∧ Row w'' p 210 17 S' ∧ Near p w' w'') rfl rfl (by kernel_rfl) (by rfl) rfl (fun w' => by go_simp) (fun w' hw' => ?_) (fun w1 v w2 hw1 hR1 => ?_)
          · refine (put_back p i m q (17 - i) 17 S1 (limb P) Hl.out (fun j _ => limb_lt _ j) hpq him w' (hS3.up hw') (hS4.up hw')).mono ?_
            rintro e w'' ⟨S', b, rfl, h1, h2, h3, h4, h5, h6⟩
            rw [HPm.out] at h2
            exact ⟨_, rfl, S', b, rfl, h1, h2, h3, h4, h5, h6⟩
          try simp only [Act.put, pu1, pu2, pu3]
          obtain ⟨S2, b', rfl, hb', he2, ho2, hl2, gp, hN⟩ := hR1
          have Hn2 := hid (round_next (b := b') (by have := He.out; rw [Nat.one_mul] at this; exact this) he2 HG1.out hb')
          have Ho2 := hid ho2
          have Hl2 := hid hl2
          clear he2 ho2 hl2
          rcases (show b' = 0 ∨ b' = 1 by omega) with rfl | rfl
          · skip
            refine wpAnyU_pure (i := 9) (d := (some 76)) (v := ?_) rfl rfl (by kernel_rfl) (fun _ _ _ h => h) hSu.out (Or.inl ⟨by rfl, fun w' _ => yu_value ?_⟩) ?_
            rotate_left
            · (go_simp; (try exact rfl))
            try simp only [Act.put, pu1, pu2, pu3]
            refine wpAnyU_pure (i := 10) (d := (some 14)) (v := ?_) rfl rfl (by kernel_rfl) (fun _ _ _ h => h) hSu.out (Or.inl ⟨by rfl, fun w' _ => yu_value ?_⟩) ?_
            rotate_left
            · (go_simp; (try exact rfl))
            try simp only [Act.put, pu1, pu2, pu3]
            refine wpAnyU_done (by kernel_rfl) (fun wF huE => ?_) _
            have l1 := (hSB.size : w.heap.size ≤ wS.heap.size)
            have l2 := hw1.size
            have g3 := (hN.row (show w.heap.size + 1 + 1 ≠ p by omega) (hS1.up hw1)).up huE
            have g4 := (hN.row (show w.heap.size + 1 + 1 + 1 ≠ p by omega) (hS2.up hw1)).up huE
            have gq := (hN.row (Ne.symm hpq) (hS4.up hw1)).up huE
            have gT := (hN.row (show t ≠ p by omega) (hS5.up hw1)).up huE
            have gB := below_up (hN.below (show w.heap.size ≤ p by omega) (below_up hSB hw1) (by omega)) huE
            replace gp := gp.up huE
            clear hS1 hS2 hS3 hS4 hS5 hSB hSS huE hw1 hN l1 l2 hb'
            go_wp2_with fail
            go_roundw
            case rel =>
              have h1 := Hn2.out
              rw [HGg.out] at h1
              exact ⟨G, 1, S2, rfl, rfl, by omega, by have := Hgl.out; have := HGg.out; omega, HGq.out, h1, fun j hj => (Ho2.out j hj).trans (Ho.out j hj), Hl2.out, g3, g4, gp, gq, gT, gB⟩
            case measure => have := HGg.out; have := HG1.out; simp [intOf] <;> omega
          · skip
            refine wpAnyU_pure (i := 9) (d := (some 76)) (v := ?_) rfl rfl (by kernel_rfl) (fun _ _ _ h => h) hSu.out (Or.inl ⟨by rfl, fun w' _ => yu_value ?_⟩) ?_
            rotate_left
            · (go_simp; (try exact rfl))
            try simp only [Act.put, pu1, pu2, pu3]
            refine wpAnyU_pure (i := 10) (d := (some 14)) (v := ?_) rfl rfl (by kernel_rfl) (fun _ _ _ h => h) hSu.out (Or.inl ⟨by rfl, fun w' _ => yu_value ?_⟩) ?_
            rotate_left
            · (go_simp; (try exact rfl))
            try simp only [Act.put, pu1, pu2, pu3]
            refine wpAnyU_done (by kernel_rfl) (fun wF huE => ?_) _
            have l1 := (hSB.size : w.heap.size ≤ wS.heap.size)
            have l2 := hw1.size
            have g3 := (hN.row (show w.heap.size + 1 + 1 ≠ p by omega) (hS1.up hw1)).up huE
            have g4 := (hN.row (show w.heap.size + 1 + 1 + 1 ≠ p by omega) (hS2.up hw1)).up huE
            have gq := (hN.row (Ne.symm hpq) (hS4.up hw1)).up huE
            have gT := (hN.row (show t ≠ p by omega) (hS5.up hw1)).up huE
            have gB := below_up (hN.below (show w.heap.size ≤ p by omega) (below_up hSB hw1) (by omega)) huE
            replace gp := gp.up huE
            clear hS1 hS2 hS3 hS4 hS5 hSB hSS huE hw1 hN l1 l2 hb'
            go_wp2_with fail
            go_roundw
            case rel =>
              have h1 := Hn2.out
              rw [HGg.out] at h1
              exact ⟨G, 0, S2, rfl, rfl, by omega, by have := Hgl.out; have := HGg.out; omega, HGq.out, h1, fun j hj => (Ho2.out j hj).trans (Ho.out j hj), Hl2.out, g3, g4, gp, gq, gT, gB⟩
            case measure => have := HGg.out; have := HG1.out; simp [intOf] <;> omega
set_option maxHeartbeats 1000000 in
theorem divide_many (x y : Nat) (hx : x < bp 16) (hy : y < bp 16) (h : ¬ x < y) (h1 : 2 ≤ lenL (limb y) 16) (w : World) :
    Calls Tryz.prog 141 #[wideV x, wideV y] w fun e w' => e = .returned (divV x y) ∧ Up w w' := by
  have hO := fun w => order_any x y hx hy w
  have ho := ordZ_ge h
  have hL := fun w => length_any y w
  have hD := fun w => divide_long x y hx hy (by omega) h1 w
  obtain ⟨n, hn⟩ : ∃ n, lenL (limb y) 16 = n := ⟨_, rfl⟩
  rw [hn] at hL h1
  have hn1 : ((n : Int) == 1) = false := by simp; omega
  have HO := hid hO
  have HL := hid hL
  unfold divV at *
  clear hO hL h hn
  generalize ordZ x y = oz at *
  have hoz : ¬ oz < 0 := by omega
  obtain ⟨q, eq⟩ : ∃ q, x / y = q := ⟨_, rfl⟩
  obtain ⟨r, er⟩ : ∃ r, x % y = r := ⟨_, rfl⟩
  rw [eq, er] at hD ⊢
  clear eq er
  unfold wideV at *
  have HD := hid hD
  clear hD
  go_enter Tryz.func141, Tryz.ntmps141
  go_wp2_with (first | ((with_reducible apply ld_rowP undW infoW); exact rfl; exact rfl; exact gRow) | ((with_reducible apply st_rowP infoW); exact rfl; exact rfl; exact gRow) | ((with_reducible apply st_rowZ infoW); exact rfl; exact rfl; exact gRow) | (go_at_call 121; refine (HO.out _).mono ?_; rintro e w' ⟨rfl, hu⟩) | (go_at_call 149; refine (HL.out _).mono ?_; rintro e w' ⟨rfl, hu⟩) | (go_at_call 153; refine (HD.out _).mono ?_; rintro e w' ⟨rfl, hu⟩))
  exact bodyPost_ret (resCC rfl undW infoW _ _ _ rfl rfl gRow gRow) rfl ⟨rfl, gUp⟩
theorem divide_any {x y : Nat} (hx : x < bp 16) (hy : y < bp 16) (h0 : y ≠ 0) (w : World) :
    Calls Tryz.prog 141 #[wideV x, wideV y] w fun e w' => e = .returned (divV x y) ∧ Up w w' := by
  by_cases h : x < y
  · exact divide_less x y hx hy h w
  · have h1 : lenL (limb y) 16 ≠ 0 := fun e => by
      have := (lenL_zero_iff (limb y) 16).1 e
      rw [sumL_limb, Nat.mod_eq_of_lt hy] at this
      exact h0 this
    by_cases h2 : lenL (limb y) 16 = 1
    · exact divide_one x y hx hy h h2 w
    · exact divide_many x y hx hy h (by omega) w
theorem div_any {a b : Int} (ha : InR a) (hb' : InR b) (w : World) :
    Calls Tryz.prog 124 #[wideV (enc a), wideV (enc b)] w fun e w' => e = .returned (divZV a b) ∧ Up w w' :=
  div_z ha hb' (fun h w => divide_any (enc_natAbs ha).2 (enc_natAbs hb').2 (by omega) w) w
def tk (F R : List Int) (q : Int) (n : Nat) : List Int := mk n fun i => (zth F 0 * zth R (i + 1) - zth R 0 * zth F (i + 1)).tdiv q
def Few (l : List Int) : Prop := ∀ i, (zth l i).natAbs < bp 5
theorem mul_bp {a b : Int} {i j : Nat} (ha : a.natAbs < bp i) (hb' : b.natAbs < bp j) : (a * b).natAbs < bp (i + j) := by
  rw [Int.natAbs_mul, bp_add]
  exact Nat.mul_lt_mul_of_lt_of_lt ha hb'
theorem drop1_range {w : World} {g : Nat} {C : Array Value} {l : List Int} {n : Nat} (hB : Blk w g 33 C) (ht : C.toList.take (l.length * 16) = wcs l) (hl : l.length = n + 1) : w.rangeAt g 16 (wcs (l.drop 1)) := by
  intro j v hv
  have hj : j < n * 16 := by have := (List.getElem?_eq_some_iff.1 hv).1; rw [wcs_len, List.length_drop, hl] at this; omega
  refine hB.cell _ ?_
  rw [← wcs_drop (i := 1) (by omega), List.getElem?_drop, ← ht, List.getElem?_take_of_lt (by omega)] at hv
  rw [← Array.getElem?_toList]
  exact hv
theorem zth_drop (l : List Int) (i : Nat) : zth (l.drop 1) i = zth l (i + 1) := by
  unfold zth
  rw [List.getD_eq_getElem?_getD, List.getD_eq_getElem?_getD, List.getElem?_drop, Nat.add_comm]
theorem few_inR {z : Int} {k : Nat} (hk : k ≤ 15) (h : z.natAbs < bp k) : InR z := inR_bp hk h
theorem tdiv_bp {a b : Int} {k : Nat} (h : a.natAbs < bp k) : (a.tdiv b).natAbs < bp k := by
  rw [Int.natAbs_tdiv]
  exact Nat.lt_of_le_of_lt (Nat.div_le_self _ _) h
theorem up_var {w0 w2 w3 w4 : World} {C D : Array Value} {t : TypeId} (h : Up w0 w2) (h3 : Up (w2.alloc (.cells C t)) w3) (h4 : Up (w3.setRow w2.heap.size D) w4) : Up w0 w4 :=
  Up.trans (below_setRow ((h.trans (Up.alloc _ _)).trans h3) h.size D) h4
set_option maxHeartbeats 8000000 in
theorem takenoff_any {vf vr : Value} {F R : List Int} {q : Int} {n : Nat} {w : World} (hF : Wv w vf F) (hR : Wv w vr R) (lF : F.length = n + 1) (lR : R.length = n + 1) (hn : n ≤ 8)
    (bF : Few F) (bR : Few R) (bq : q.natAbs < bp 5) (q0 : q ≠ 0) :
    Calls Tryz.prog 100 #[vf, vr, wideV (enc q)] w fun r w' => ∃ z, r = .returned z ∧ Up w w' ∧ ∃ b, w.heap.size ≤ b ∧ OwnW w' b z (tk F R q n) := by
  obtain ⟨gF, cF, CF, rfl, -, hBF, htF⟩ := hF.open (by omega)
  obtain ⟨gR, cR, CR, rfl, hcR, hBR, htR⟩ := hR.open (by omega)
  obtain ⟨old, hold⟩ : ∃ o, R.drop 1 = o := ⟨_, rfl⟩
  obtain rfl : n = old.length := by rw [← hold, List.length_drop]; omega
  have hRng16 : ∀ w', Blk w' gR 33 CR → w'.rangeAt gR 16 (wcs old) := fun w' hB => hold ▸ drop1_range hB htR lR
  have HRng16 := hid hRng16
  have HRng0 : Hid (old.length = 0 → ∀ (w' : World) g o, w'.rangeAt g o (wcs old)) := hid (fun h w' g o j v hv => by rw [List.length_eq_zero_iff.1 h] at hv; exact absurd hv (by simp [wcs]))
  have HRO : Hid (∀ i, zth old i = zth R (i + 1)) := hid (fun i => by rw [← hold, zth_drop])
  rw [lF, lR]
  rw [lR] at hcR
  obtain ⟨L', hL'⟩ : ∃ x, tk F R q old.length = x := ⟨_, rfl⟩
  have hlL : L'.length = old.length := by rw [← hL']; exact mk_len _ _
  have HlL := hid hlL
  have HAt : Hid (∀ i, i < old.length → zth L' i = (zth F 0 * zth R (i + 1) - zth R 0 * zth F (i + 1)).tdiv q) := hid (fun i hi => by rw [← hL']; exact mk_at hi)
  have HtF := hid htF
  have HtR := hid htR
  have HlF := hid lF
  have HlR := hid lR
  have hq : InR q := few_inR (by omega) bq
  rw [hL']
  obtain ⟨wS, hwS⟩ : ∃ x, w.alloc (.cells (cells 16 (limb (enc q))) 33) = x := ⟨_, rfl⟩
  have hBox : Row wS w.heap.size 33 16 (limb (enc q)) := by rw [← hwS]; exact row_newc _ _ _ rfl
  have hUS : Up w wS := by rw [← hwS]; exact Up.alloc _ _
  have hBFS := hBF.up hUS
  have hBRS := hBR.up hUS
  have hszS : wS.heap.size = w.heap.size + 1 := by rw [← hwS]; simp
  have hgF := hBF.lt
  have hgR := hBR.lt
  clear hF hR hold hRng16 hL' hlL htF htR lF lR hBF hBR
  obtain ⟨c2, rfl⟩ : ∃ c2, cR = c2 + 1 := ⟨cR - 1, by omega⟩
  unfold wideV at *
  rcases c2 with _ | c2
  · obtain rfl : old = [] := List.length_eq_zero_iff.1 (by omega)
    obtain rfl : L' = [] := List.length_eq_zero_iff.1 HlL.out
    go_enter Tryz.func100, Tryz.ntmps100
    go_wp2_with (first
      | ((with_reducible apply appW (l := []) (m := [])); exact rfl; exact rfl; exact OwnW.nil _ wS.heap.size; exact HRng0.out rfl _ _ _; exact Nat.le_refl _; (focus (simp; done)); (focus (simp; done)); rintro v1 w1 hO1 - hb1; rw [List.nil_append] at hO1; obtain ⟨pL, cL, rfl⟩ := hO1.slice))
    go_loopg [20] 1 (fun g ti wr => ti = .int .i64 0 ∧ OwnW wr wS.heap.size (.slice pL 0 cL) [] ∧ Up wS wr)
    case atStart => exact ⟨rfl, hO1, hb1⟩
    case round =>
      clear hO1 hb1
      obtain ⟨rfl, hO1, hb1⟩ := hrel
      go_wp2_with fail
      go_ret
      exact ⟨_, rfl, hUS.trans hb1, _, hUS.size, hO1⟩
  · go_enter Tryz.func100, Tryz.ntmps100
    go_wp2_with (first
      | ((with_reducible apply appW (l := []) (m := old)); exact rfl; exact rfl; exact OwnW.nil _ wS.heap.size; (first | exact HRng16.out _ hBRS | exact HRng0.out (by omega) _ _ _); exact Nat.le_refl _; (focus (simp; done)); (focus omega); rintro v1 w1 hO1 - hb1; rw [List.nil_append] at hO1; obtain ⟨pL, cL, rfl⟩ := hO1.slice))
    have hU1 : Up wS w1 := hb1
    go_loopg [20] old.length (fun g ti wr => ∃ i : Nat, i ≤ old.length ∧ old.length - i ≤ g ∧ ti = .int .i64 (i : Nat) ∧ OwnW wr wS.heap.size (.slice pL old.length cL) (mixed L' old i) ∧ Up wS wr)
    case atStart => exact ⟨0, Nat.zero_le _, by omega, rfl, by rw [mixed_zero]; exact hO1, hU1⟩
    case round =>
      clear hO1 hU1 hb1
      obtain ⟨i, hi, hig, rfl, hO, hu⟩ := hrel
      by_cases hlt : i < old.length
      · have hml := mixed_len HlL.out i
        obtain ⟨gL, cL', CL, hv, hbL, hBL, -, -, -, htL⟩ := hO.open (by omega)
        injection hv with x1 x2 x3
        subst x1 x3
        have hmi : zth (mixed L' old i) i = zth R (i + 1) := by rw [mixed_at HlL.out hlt, HRO.out]
        have hRL : ∀ w', Blk w' gL 33 CL → w'.rangeAt gL (i * 16) (wc (zth R (i + 1))) := fun w' hB => hmi ▸ wv_range hB htL (by omega)
        have HRL := hid hRL
        have HRF0 := hid (fun w' (hB : Blk w' gF 33 CF) => wv_range hB HtF.out (i := 0) (by rw [HlF.out]; omega))
        have HRFi := hid (fun w' (hB : Blk w' gF 33 CF) => wv_range hB HtF.out (i := i + 1) (by rw [HlF.out]; omega))
        have HRR0 := hid (fun w' (hB : Blk w' gR 33 CR) => wv_range hB HtR.out (i := 0) (by rw [HlR.out]; omega))
        have hat := HAt.out i hlt
        have b1 : (zth F 0 * zth R (i + 1)).natAbs < bp 10 := mul_bp (bF 0) (bR (i + 1))
        have b2 : (zth R 0 * zth F (i + 1)).natAbs < bp 10 := mul_bp (bR 0) (bF (i + 1))
        have HM1 := hid (fun w => mul_z (few_inR (by omega) (bF 0)) (few_inR (by omega) (bR (i + 1))) w)
        have HM2 := hid (fun w => mul_z (few_inR (by omega) (bR 0)) (few_inR (by omega) (bF (i + 1))) w)
        rw [opt_yes (few_inR (by omega) b1)] at HM1
        rw [opt_yes (few_inR (by omega) b2)] at HM2
        have b3 : (zth F 0 * zth R (i + 1) - zth R 0 * zth F (i + 1)).natAbs < bp 11 := by
          have e : bp 11 = bp 10 * 18446744073709551616 := bp_succ 10
          have := Int.natAbs_sub_le (zth F 0 * zth R (i + 1)) (zth R 0 * zth F (i + 1))
          omega
        have HS := hid (fun w => sub_z (few_inR (by omega) b1) (few_inR (by omega) b2) w)
        rw [opt_yes (few_inR (by omega) b3)] at HS
        have HD := hid (fun w => div_any (few_inR (by omega) b3) hq w)
        have hdv : divZV (zth F 0 * zth R (i + 1) - zth R 0 * zth F (i + 1)) q = .tuple #[wideV (enc (zth L' i)), wideV (enc ((zth F 0 * zth R (i + 1) - zth R 0 * zth F (i + 1)).tmod q)), .bool true] := by
          unfold divZV
          rw [if_neg (by rintro (h | h); exact q0 h; exact h (few_inR (by omega) (tdiv_bp b3))), ← hat]
        rw [hdv] at HD
        have HSet := hid (mixed_set HlL.out hlt)
        clear b1 b2 b3 hdv hat hRL hmi htL hml x2
        generalize (zth F 0 * zth R (i + 1) - zth R 0 * zth F (i + 1)).tmod q = rest at *
        generalize zth F 0 * zth R (i + 1) - zth R 0 * zth F (i + 1) = dif at *
        go_wp2_with fail
        have hBFr := hBFS.up hu
        have hBRr := hBRS.up hu
        have hBxr := hBox.up hu
        have hgL : wS.heap.size ≤ gL := by omega
        unfold wideV at *
        trace_state
        refine wp_region_upH (S := (fun wq => Up wr wq ∧ Below w.heap.size w wq)) (req := (fun j => j != 12)) (by kernel_rfl) (fun _ _ h hu => ⟨(h.1).trans hu, below_up (h.2) hu⟩) ⟨(by first | exact Up.refl _ | assumption), gUp⟩ (fun wS hSS hSu => ?_)
        have ⟨hS1, hSB⟩ := hSS
        refine wpAnyU_pure (i := 0) (d := (some 24)) (v := ?_) rfl rfl (by kernel_rfl) (fun _ _ _ h => h) hSu.out (Or.inl ⟨by rfl, fun w' _ => yu_value ?_⟩) ?_
        rotate_left
        · (go_simp; (try exact rfl))
        try simp only [Act.put, pu1, pu2, pu3]
        refine wpAnyU_pure (i := 1) (d := (some 25)) (v := ?_) rfl rfl (by kernel_rfl) (fun _ _ _ h => h) hSu.out (Or.inl ⟨by rfl, fun w' _ => yu_value ?_⟩) ?_
        rotate_left
        · (go_simp; (try exact rfl))
        try simp only [Act.put, pu1, pu2, pu3]
        refine wpAnyU_take (i := 2) (d := (some 26)) (v := _) rfl rfl (by kernel_rfl) (fun _ _ _ h => h) hSu.out hSS (Or.inl ⟨by rfl, fun w' hSw => yu_value (run_ldW rfl rfl (HRF0.out _ (hBFr.up hSw.1)))⟩) ?_
        try simp only [Act.put, pu1, pu2, pu3]
        refine wpAnyU_pure (i := 3) (d := (some 27)) (v := ?_) rfl rfl (by kernel_rfl) (fun _ _ _ h => h) hSu.out (Or.inl ⟨by rfl, fun w' _ => yu_value ?_⟩) ?_
        rotate_left
        · (go_simp; (try exact rfl))
        try simp only [Act.put, pu1, pu2, pu3]
        refine wpAnyU_pure (i := 4) (d := (some 28)) (v := ?_) rfl rfl (by kernel_rfl) (fun _ _ _ h => h) hSu.out (Or.inl ⟨by rfl, fun w' _ => yu_value ?_⟩) ?_
        rotate_left
        · (go_simp; (try exact rfl))
        try simp only [Act.put, pu1, pu2, pu3]
        refine wpAnyU_pure (i := 5) (d := (some 29)) (v := ?_) rfl rfl (by kernel_rfl) (fun _ _ _ h => h) hSu.out (Or.inl ⟨by rfl, fun w' _ => yu_value ?_⟩) ?_
        rotate_left
        · (go_simp; (try exact rfl))
        try simp only [Act.put, pu1, pu2, pu3]
        refine wpAnyU_take (i := 6) (d := (some 30)) (v := _) rfl rfl (by kernel_rfl) (fun _ _ _ h => h) hSu.out hSS (Or.inl ⟨by rfl, fun w' hSw => yu_value (run_ldW rfl rfl (HRL.out _ (hBL.up hSw.1)))⟩) ?_
        try simp only [Act.put, pu1, pu2, pu3]
        refine wpAnyU_take (i := 7) (d := (some 31)) (v := _) rfl rfl (by kernel_rfl) (fun _ _ _ h => h) hSu.out hSS (Or.inl ⟨by rfl, fun w' hSw => yu_call ?_ (HM1.out _)⟩) ?_
        · go_simp
        try simp only [Act.put, pu1, pu2, pu3]
        refine wpAnyU_pure (i := 8) (d := (some 23)) (v := ?_) rfl rfl (by kernel_rfl) (fun _ _ _ h => h) hSu.out (Or.inl ⟨by rfl, fun w' _ => yu_value ?_⟩) ?_
        rotate_left
        · (go_simp; (try exact rfl))
        try simp only [Act.put, pu1, pu2, pu3]
        refine wpAnyU_pure (i := 9) (d := (some 32)) (v := ?_) rfl rfl (by kernel_rfl) (fun _ _ _ h => h) hSu.out (Or.inl ⟨by rfl, fun w' _ => yu_value ?_⟩) ?_
        rotate_left
        · (go_simp; (try exact rfl))
        try simp only [Act.put, pu1, pu2, pu3]
        refine wpAnyU_pure (i := 10) (d := (some 33)) (v := ?_) rfl rfl (by kernel_rfl) (fun _ _ _ h => h) hSu.out (Or.inl ⟨by rfl, fun w' _ => yu_value ?_⟩) ?_
        rotate_left
        · (go_simp; (try exact rfl))
        try simp only [Act.put, pu1, pu2, pu3]
        refine wpAnyU_allocW (i := 11) (d := (some 9)) rfl rfl (by kernel_rfl) (by rfl) rfl hSu.out fun w2 hw2 => ?_
        try simp only [Act.put, pu1, pu2, pu3]
        refine wpAnyU_one (i := 12) rfl (by kernel_rfl) (by rfl) fun w3 hw3 => ?_
        refine wp_st_rowN infoW rfl _ _ rfl _ rfl rfl ((Row.up (row_newc _ 16 _ rfl) hw3)) ?_
        refine ⟨fun h => by simp at h, ?_⟩
        try simp only [Act.put, pu1, pu2, pu3]
        refine wpAnyU_pure (i := 13) (d := (some 10)) (v := ?_) rfl rfl (by kernel_rfl) (fun _ _ _ h => h) hSu.out (Or.inl ⟨by rfl, fun w' _ => yu_value ?_⟩) ?_
        rotate_left
        · (go_simp; (try exact rfl))
        try simp only [Act.put, pu1, pu2, pu3]
        refine wpAnyU_done (by kernel_rfl) (fun wF huE => ?_) _
        have hP1 := ((Row.up (row_newc 33 16 (fun _ => 0) (rfl : w2.heap.size = w2.heap.size)) hw3).setRow (limb (enc (zth F 0 * zth R (i + 1))))).up huE
        have hx1 := up_var (hS1.trans hw2) hw3 huE
        have hlt1 := Nat.le_trans hu.size (hS1.trans hw2).size
        clear hS1 hSB hSS hw2 hw3 huE
        obtain ⟨wA, hwA⟩ : ∃ x, wF = x := ⟨_, rfl⟩
        rw [hwA] at hP1 hx1 ⊢
        clear hwA
        obtain ⟨b1, hb1⟩ : ∃ x, w2.heap.size = x := ⟨_, rfl⟩
        rw [hb1] at hP1 hlt1 ⊢
        clear hb1
        have hBFA := hBFr.up hx1
        have hBRA := hBRr.up hx1
        have e1 : IntKind.i64.wrap ((i : Int) + 1) = (i : Int) + 1 := IntWalk.i64_in _ (by omega)
        have e2 : (0 : Int) ≤ (i : Int) + 1 ∧ (i : Int) + 1 < (old.length : Int) + 1 := by omega
        go_wp2_with fail
        refine wp_region_upH (S := (fun wq => Up wA wq ∧ Below w.heap.size w wq)) (req := (fun j => j != 13)) (by kernel_rfl) (fun _ _ h hu => ⟨(h.1).trans hu, below_up (h.2) hu⟩) ⟨(by first | exact Up.refl _ | assumption), gUp⟩ (fun wS hSS hSu => ?_)
        have ⟨hS1, hSB⟩ := hSS
        refine wpAnyU_pure (i := 0) (d := (some 35)) (v := ?_) rfl rfl (by kernel_rfl) (fun _ _ _ h => h) hSu.out (Or.inl ⟨by rfl, fun w' _ => yu_value ?_⟩) ?_
        rotate_left
        · (go_simp; (try exact rfl))
        try simp only [Act.put, pu1, pu2, pu3]
        refine wpAnyU_pure (i := 1) (d := (some 36)) (v := ?_) rfl rfl (by kernel_rfl) (fun _ _ _ h => h) hSu.out (Or.inl ⟨by rfl, fun w' _ => yu_value ?_⟩) ?_
        rotate_left
        · (go_simp; (try exact rfl))
        try simp only [Act.put, pu1, pu2, pu3]
        refine wpAnyU_take (i := 2) (d := (some 37)) (v := _) rfl rfl (by kernel_rfl) (fun _ _ _ h => h) hSu.out hSS (Or.inl ⟨by rfl, fun w' hSw => yu_value (run_ldW rfl rfl (HRR0.out _ (hBRA.up hSw.1)))⟩) ?_
        try simp only [Act.put, pu1, pu2, pu3]
        refine wpAnyU_pure (i := 3) (d := (some 38)) (v := ?_) rfl rfl (by kernel_rfl) (fun _ _ _ h => h) hSu.out (Or.inl ⟨by rfl, fun w' _ => yu_value ?_⟩) ?_
        rotate_left
        · (go_simp; (try exact rfl))
        try simp only [Act.put, pu1, pu2, pu3]
        refine wpAnyU_pure (i := 4) (d := (some 39)) (v := ?_) rfl rfl (by kernel_rfl) (fun _ _ _ h => h) hSu.out (Or.inl ⟨by rfl, fun w' _ => yu_value ?_⟩) ?_
        rotate_left
        · (go_simp; (try exact rfl))
        try simp only [Act.put, pu1, pu2, pu3]
        refine wpAnyU_pure (i := 5) (d := (some 40)) (v := ?_) rfl rfl (by kernel_rfl) (fun _ _ _ h => h) hSu.out (Or.inl ⟨by rfl, fun w' _ => yu_value ?_⟩) ?_
        rotate_left
        · (go_simp; (try exact rfl))
        try simp only [Act.put, pu1, pu2, pu3]
        refine wpAnyU_pure (i := 6) (d := (some 41)) (v := ?_) rfl rfl (by kernel_rfl) (fun _ _ _ h => h) hSu.out (Or.inl ⟨by rfl, fun w' _ => yu_value ?_⟩) ?_
        rotate_left
        · (go_simp; (try exact rfl))
        try simp only [Act.put, pu1, pu2, pu3]
        refine wpAnyU_take (i := 7) (d := (some 42)) (v := _) rfl rfl (by kernel_rfl) (fun _ _ _ h => h) hSu.out hSS (Or.inl ⟨by rfl, fun w' hSw => yu_value (run_ldW rfl rfl (HRFi.out _ (hBFA.up hSw.1)))⟩) ?_
        try simp only [Act.put, pu1, pu2, pu3]
        refine wpAnyU_take (i := 8) (d := (some 43)) (v := _) rfl rfl (by kernel_rfl) (fun _ _ _ h => h) hSu.out hSS (Or.inl ⟨by rfl, fun w' hSw => yu_call ?_ (HM2.out _)⟩) ?_
        · go_simp
        try simp only [Act.put, pu1, pu2, pu3]
        refine wpAnyU_pure (i := 9) (d := (some 34)) (v := ?_) rfl rfl (by kernel_rfl) (fun _ _ _ h => h) hSu.out (Or.inl ⟨by rfl, fun w' _ => yu_value ?_⟩) ?_
        rotate_left
        · (go_simp; (try exact rfl))
        try simp only [Act.put, pu1, pu2, pu3]
        refine wpAnyU_pure (i := 10) (d := (some 44)) (v := ?_) rfl rfl (by kernel_rfl) (fun _ _ _ h => h) hSu.out (Or.inl ⟨by rfl, fun w' _ => yu_value ?_⟩) ?_
        rotate_left
        · (go_simp; (try exact rfl))
        try simp only [Act.put, pu1, pu2, pu3]
        refine wpAnyU_pure (i := 11) (d := (some 45)) (v := ?_) rfl rfl (by kernel_rfl) (fun _ _ _ h => h) hSu.out (Or.inl ⟨by rfl, fun w' _ => yu_value ?_⟩) ?_
        rotate_left
        · (go_simp; (try exact rfl))
        try simp only [Act.put, pu1, pu2, pu3]
        refine wpAnyU_allocW (i := 12) (d := (some 11)) rfl rfl (by kernel_rfl) (by rfl) rfl hSu.out fun w4 hw4 => ?_
        try simp only [Act.put, pu1, pu2, pu3]
        refine wpAnyU_one (i := 13) rfl (by kernel_rfl) (by rfl) fun w5 hw5 => ?_
        refine wp_st_rowN infoW rfl _ _ rfl _ rfl rfl ((Row.up (row_newc _ 16 _ rfl) hw5)) ?_
        refine ⟨fun h => by simp at h, ?_⟩
        try simp only [Act.put, pu1, pu2, pu3]
        refine wpAnyU_pure (i := 14) (d := (some 12)) (v := ?_) rfl rfl (by kernel_rfl) (fun _ _ _ h => h) hSu.out (Or.inl ⟨by rfl, fun w' _ => yu_value ?_⟩) ?_
        rotate_left
        · (go_simp; (try exact rfl))
        try simp only [Act.put, pu1, pu2, pu3]
        refine wpAnyU_done (by kernel_rfl) (fun wF huE => ?_) _
        have hP2 := ((Row.up (row_newc 33 16 (fun _ => 0) (rfl : w4.heap.size = w4.heap.size)) hw5).setRow (limb (enc (zth R 0 * zth F (i + 1))))).up huE
        have hx2 := up_var (hS1.trans hw4) hw5 huE
        clear hS1 hSB hSS hw4 hw5 huE
        obtain ⟨wB, hwB⟩ : ∃ x, wF = x := ⟨_, rfl⟩
        rw [hwB] at hP2 hx2 ⊢
        clear hwB
        obtain ⟨b2, hb2⟩ : ∃ x, w4.heap.size = x := ⟨_, rfl⟩
        rw [hb2] at hP2 ⊢
        clear hb2
        replace hP1 := hP1.up hx2
        have hx12 := hx1.trans hx2
        have hBxB := hBxr.up hx12
        have hBLB := hBL.up hx12
        have hOB := hO.up hx12
        have huB := hu.trans hx12
        have hltB := hBxB.lt
        clear hx1 hx2 hBFA hBRA
        generalize zth F 0 * zth R (i + 1) = p1 at *
        generalize zth R 0 * zth F (i + 1) = p2 at *
        go_wp2_with (first
          | ((with_reducible apply ld_rowP undW infoW); exact rfl; exact rfl; exact gRow)
          | (go_at_call 120; (with_reducible refine (HS.out _).mono ?_); rintro r w6 ⟨rfl, hu6⟩; have hs6 := hu6.size)
          | ((with_reducible apply st_rowP infoW); exact rfl; exact rfl; exact gRow) | ((with_reducible apply st_rowZ infoW); exact rfl; exact rfl; exact gRow)
          | (go_at_call 124; (with_reducible refine (HD.out _).mono ?_); rintro r w7 ⟨rfl, hu7⟩; have hx7 : Up wB w7 := Up.trans gUp hu7; have hBL7 := hBLB.up hx7; have hset := (hOB.up hx7).set hBL7 (i := i) (by rw [mixed_len HlL.out]; exact hlt) (zth L' i); rw [HSet.out] at hset; have hu8 := below_setRow (huB.trans hx7) hgL (splW CL (i * 16) (zth L' i)))
          | ((with_reducible apply stW_P); exact rfl; exact rfl; exact hBL7; exact hset.2))
        go_roundg (old.length - (i + 1))
        case measure => omega
        case rel => exact ⟨i + 1, hlt, Nat.le_refl _, rfl, hset.1, hu8⟩
      · obtain rfl : i = old.length := by omega
        rw [← HlL.out, mixed_all HlL.out] at hO
        go_wp2_with fail
        go_ret
        rw [HlL.out] at hO
        exact ⟨_, rfl, hUS.trans hu, _, hUS.size, hO⟩
def Rv (w : World) (v : Value) (L : List (List Int)) : Prop :=
  (L = [] ∧ ∃ p c, v = .slice p 0 c) ∨ ∃ g o cap C, v = .slice (some ⟨g, o, none⟩) L.length cap ∧ L.length ≤ cap ∧ Blk w g 38 C ∧ ∀ i, i < L.length → ∃ s, C[o + i]? = some s ∧ Wv w s (L.getD i [])
theorem Rv.up {w w' : World} (hu : Up w w') {v : Value} {L : List (List Int)} (h : Rv w v L) : Rv w' v L := by
  rcases h with h | ⟨g, o, cap, C, h1, h2, h3, h4⟩
  · exact .inl h
  · exact .inr ⟨g, o, cap, C, h1, h2, h3.up hu, fun i hi => by obtain ⟨s, h5, h6⟩ := h4 i hi; exact ⟨s, h5, h6.up hu⟩⟩
theorem Rv.slice {w : World} {v : Value} {L : List (List Int)} (h : Rv w v L) : ∃ p c, v = .slice p L.length c := by
  rcases h with ⟨rfl, p, c, rfl⟩ | ⟨g, o, cap, C, rfl, _⟩
  · exact ⟨p, c, rfl⟩
  · exact ⟨_, cap, rfl⟩
theorem Rv.open {w : World} {v : Value} {L : List (List Int)} (h : Rv w v L) (h0 : 0 < L.length) :
    ∃ g o cap C, v = .slice (some ⟨g, o, none⟩) L.length cap ∧ L.length ≤ cap ∧ Blk w g 38 C ∧ ∀ i, i < L.length → ∃ s, C[o + i]? = some s ∧ Wv w s (L.getD i []) := by
  rcases h with ⟨rfl, _⟩ | h
  · exact absurd h0 (by decide)
  · exact h
def Wb (w : World) (base : Nat) (v : Value) (l : List Int) : Prop := Wv w v l ∧ ∀ a n c, v = .slice (some a) n c → 0 < n → base ≤ a.block
theorem Wb.up {w w' : World} (hu : Up w w') {base : Nat} {v : Value} {l : List Int} (h : Wb w base v l) : Wb w' base v l := ⟨h.1.up hu, h.2⟩
theorem OwnW.wb {w : World} {base b : Nat} {v : Value} {l : List Int} (h : OwnW w b v l) (hb : base ≤ b) : Wb w base v l := by
  refine ⟨h.wv, fun a n c e h0 => ?_⟩
  obtain ⟨_, ⟨rfl, h1⟩ | ⟨g, cap, cur, rfl, h2, _⟩⟩ := h
  · simp at e
  · injection e with e1
    injection e1 with e1
    subst e1
    exact Nat.le_trans hb h2
theorem OwnW.below {w : World} {base g : Nat} {v : Value} {l : List Int} (h : OwnW w base v l) (hg : g < base) (D : Array Value) : OwnW (w.setRow g D) base v l := by
  obtain ⟨h0, h1 | ⟨g', cap, cur, hv, hb, hB, hr⟩⟩ := h
  · exact ⟨h0, .inl h1⟩
  · exact ⟨h0, .inr ⟨g', cap, cur, hv, hb, Blk.row_other hB D (by omega), hr⟩⟩
theorem Wb.below {w : World} {base g : Nat} {v : Value} {l : List Int} (h : Wb w base v l) (hg : g < base) (D : Array Value) : Wb (w.setRow g D) base v l := by
  obtain ⟨h1, h2⟩ := h
  refine ⟨?_, h2⟩
  rcases h1 with h1 | ⟨g', cap, C, hv, hc, hB, ht⟩
  · exact .inl h1
  · rcases Nat.eq_zero_or_pos l.length with h0 | h0
    · exact .inl ⟨List.length_eq_zero_iff.1 h0, _, _, by rw [hv, h0]⟩
    · have := h2 _ _ _ hv h0
      exact .inr ⟨g', cap, C, hv, hc, Blk.row_other hB D (by show g' ≠ g; have : base ≤ g' := this; omega), ht⟩
def OwnR (w : World) (base : Nat) (v : Value) (L : List (List Int)) : Prop :=
  ∃ xs : List Value, w.ownsRow base 38 1 v L.length xs ∧ ∀ i, i < L.length → ∃ s, xs[i]? = some s ∧ Wb w base s (L.getD i [])
theorem OwnR.below {w : World} {base g : Nat} {v : Value} {L : List (List Int)} (h : OwnR w base v L) (hg : g < base) (D : Array Value) : OwnR (w.setRow g D) base v L := by
  obtain ⟨xs, ⟨h0, h1⟩, h2⟩ := h
  refine ⟨xs, ⟨h0, ?_⟩, fun i hi => by obtain ⟨s, h5, h6⟩ := h2 i hi; exact ⟨s, h5, h6.below hg D⟩⟩
  rcases h1 with h1 | ⟨g', cap, cur, hv, hb, hB, hr⟩
  · exact .inl h1
  · exact .inr ⟨g', cap, cur, hv, hb, Blk.row_other hB D (by omega), hr⟩
theorem OwnR.up {w w' : World} {base : Nat} {v : Value} {L : List (List Int)} (hu : Up w w') (h : OwnR w base v L) : OwnR w' base v L := by
  obtain ⟨xs, h1, h2⟩ := h
  exact ⟨xs, World.ownsRow.up h1 hu, fun i hi => by obtain ⟨s, h5, h6⟩ := h2 i hi; exact ⟨s, h5, h6.up hu⟩⟩
theorem OwnR.nil (w : World) (base : Nat) : OwnR w base (.slice none 0 0) [] := ⟨[], World.ownsRow_nil _ _ _ _, fun _ hi => absurd hi (Nat.not_lt_zero _)⟩
def Rz (w : World) (v : Value) (L : List (List Int)) : Prop :=
  (L = [] ∧ ∃ p c, v = .slice p 0 c) ∨ ∃ g cap C, v = .slice (some ⟨g, 0, none⟩) L.length cap ∧ L.length ≤ cap ∧ Blk w g 38 C ∧ ∀ i, i < L.length → ∃ s, C[i]? = some s ∧ Wv w s (L.getD i [])
theorem Rz.up {w w' : World} (hu : Up w w') {v : Value} {L : List (List Int)} (h : Rz w v L) : Rz w' v L := by
  rcases h with h | ⟨g, cap, C, h1, h2, h3, h4⟩
  · exact .inl h
  · exact .inr ⟨g, cap, C, h1, h2, h3.up hu, fun i hi => by obtain ⟨s, h5, h6⟩ := h4 i hi; exact ⟨s, h5, h6.up hu⟩⟩
theorem Rz.open {w : World} {v : Value} {L : List (List Int)} (h : Rz w v L) (h0 : 0 < L.length) :
    ∃ g cap C, v = .slice (some ⟨g, 0, none⟩) L.length cap ∧ L.length ≤ cap ∧ Blk w g 38 C ∧ ∀ i, i < L.length → ∃ s, C[i]? = some s ∧ Wv w s (L.getD i []) := by
  rcases h with ⟨rfl, _⟩ | h
  · exact absurd h0 (by decide)
  · exact h
theorem Rz.slice {w : World} {v : Value} {L : List (List Int)} (h : Rz w v L) : ∃ p c, v = .slice p L.length c := by
  rcases h with ⟨rfl, p, c, rfl⟩ | ⟨g, cap, C, rfl, _⟩
  · exact ⟨p, c, rfl⟩
  · exact ⟨_, cap, rfl⟩
theorem OwnR.rz {w : World} {base : Nat} {v : Value} {L : List (List Int)} (h : OwnR w base v L) : Rz w v L := by
  obtain ⟨xs, ⟨_, ⟨rfl, h0⟩ | ⟨g, cap, cur, rfl, _, hB, hc, _, _, ht⟩⟩, h2⟩ := h
  · exact .inl ⟨List.length_eq_zero_iff.1 h0, _, _, rfl⟩
  · refine .inr ⟨g, cap, cur, rfl, hc, hB, fun i hi => ?_⟩
    obtain ⟨s, h3, h4⟩ := h2 i hi
    rw [← ht, List.getElem?_take_of_lt (by omega), Array.getElem?_toList] at h3
    exact ⟨s, h3, h4.1⟩
theorem OwnR.slice {w : World} {base : Nat} {v : Value} {L : List (List Int)} (h : OwnR w base v L) : ∃ p c, v = .slice p L.length c := h.rz.slice
theorem Rz.tail {w : World} {g n cap : Nat} {C : Array Value} {L : List (List Int)} (hl : L.length = n + 1) (hc : n + 1 ≤ cap) (hB : Blk w g 38 C) (hE : ∀ i, i < L.length → ∃ s, C[i]? = some s ∧ Wv w s (L.getD i [])) : Rv w (.slice (some ⟨g, 1, none⟩) n (cap - 1)) (L.drop 1) := by
  have hn : (L.drop 1).length = n := by rw [List.length_drop]; omega
  refine .inr ⟨g, 1, cap - 1, C, by rw [hn], by rw [hn]; omega, hB, fun i hi => ?_⟩
  rw [hn] at hi
  obtain ⟨s, h1, h2⟩ := hE (i + 1) (by omega)
  refine ⟨s, by rw [Nat.add_comm]; exact h1, ?_⟩
  have e : (L.drop 1).getD i [] = L.getD (i + 1) [] := by rw [List.getD_eq_getElem?_getD, List.getD_eq_getElem?_getD, List.getElem?_drop, Nat.add_comm]
  rw [e]
  exact h2
theorem Wv.grown {w w' : World} {row : Option Nat} {v : Value} {l : List Int} (h : Wv w v l) (hg : w.grownBy w' row) (hr : ∀ k, row = some k → ∃ C, Blk w k 38 C) : Wv w' v l := by
  rcases h with h | ⟨g, cap, C, h1, h2, h3, h4⟩
  · exact .inl h
  · refine .inr ⟨g, cap, C, h1, h2, ?_, h4⟩
    unfold Blk
    rw [hg.block g h3.lt ?_]
    · exact h3
    · intro e
      obtain ⟨D, hD⟩ := hr g e.symm
      unfold Blk at hD h3
      rw [hD] at h3
      simp at h3
theorem appR {ops : Array Oper} {rest : List Oper} {Q : Exit → Act → World → Prop} {a : Act} {w : World} {d : Option Tmp} {s u : Operand} {ty : TypeId} {pos : String} {af : Array Edge} {base g c : Nat} {v : Value} {L : List (List Int)} {x : Value} {r : List Int}
    (hs : a.eval s = v) (hu : a.eval u = .slice (some ⟨g, 0, none⟩) 1 c) (hown : OwnR w base v L) (hV : w.cell? ⟨g, 0, none⟩ = some x) (hx : Wb w base x r) (hbase : base ≤ w.heap.size) (hl : L.length < 1000000)
    (h : ∀ v' w', OwnR w' base v' (L ++ [r]) → w.grownBy w' v.ownBlock → Below base w w' → wpList Tryz.prog ops Q rest (a.put d v') w') :
    wpList Tryz.prog ops Q ({ dst := d, op := .call { callee := .builtin .append, args := #[s, u], argTypes := #[103, 103] }, type := ty, pos := pos, after := af, guard := none } :: rest) a w := by
  obtain ⟨i0, hi0, he⟩ := Option.map_eq_some_iff.1 infoRs
  simp only [Prod.mk.injEq] at he
  obtain ⟨xs, hxs, hE⟩ := hown
  have hlt := World.ownsRow.lt hxs
  have hrow : ∀ k, v.ownBlock = some k → ∃ C, Blk w k 38 C := by
    intro k hk
    obtain ⟨_, ⟨rfl, _⟩ | ⟨g', cap, cur, rfl, _, hB, _⟩⟩ := hxs
    · simp [Value.ownBlock] at hk
    · simp [Value.ownBlock] at hk; subst hk; exact ⟨cur, hB⟩
  have hxl : xs.length = L.length := by have := hxs.1; omega
  obtain ⟨px, cx, rfl⟩ := hx.1.slice
  refine wpList_append_own w rfl s u 103 rfl base 38 i0 _ 1 24 undRs hi0 he.1 he.2.1 he.2.2 rfl (by decide) v L.length xs hs hxs ⟨g, 0, none⟩ 1 c [.slice px r.length cx] hu rfl (fun j y hy => by
    rcases j with _ | j
    · simp at hy; subst hy; rw [Addr.add_mid]; exact hV
    · simp at hy) (by simp [Value.oneCell']) (by unfold maxLen; omega) (by omega) hbase ?_
  intro v' w' h1 h2 _
  refine h v' w' ⟨xs ++ [.slice px r.length cx], by rw [List.length_append]; exact h1, fun i hi => ?_⟩ h2 ⟨h2.os, h2.tape, h2.output, h2.size, fun k hk => h2.block k (by omega) fun e => ?_⟩
  · rw [List.length_append, List.length_singleton] at hi
    by_cases e : i < L.length
    · obtain ⟨s', h3, h4⟩ := hE i e
      refine ⟨s', by rw [List.getElem?_append_left (by omega)]; exact h3, ?_⟩
      rw [show (L ++ [r]).getD i [] = L.getD i [] from by rw [List.getD_eq_getElem?_getD, List.getD_eq_getElem?_getD, List.getElem?_append_left e]]
      exact ⟨h4.1.grown h2 hrow, h4.2⟩
    · obtain rfl : i = L.length := by omega
      refine ⟨_, by rw [List.getElem?_append_right (by omega), hxl, Nat.sub_self]; rfl, ?_⟩
      rw [show (L ++ [r]).getD L.length [] = r from by rw [List.getD_eq_getElem?_getD, List.getElem?_append_right (Nat.le_refl _), Nat.sub_self]; rfl]
      exact ⟨hx.1.grown h2 hrow, hx.2⟩
  · have := hlt k e.symm
    omega
theorem take_map_succ {α β : Type} (f : α → β) (L : List α) (d : α) {k : Nat} (hk : k < L.length) : (L.map f).take (k + 1) = (L.map f).take k ++ [f (L.getD k d)] := by
  rw [List.take_add_one, List.getElem?_eq_getElem (by rw [List.length_map]; exact hk), List.getElem_map, List.getD_eq_getElem?_getD, List.getElem?_eq_getElem hk]
  rfl
set_option maxHeartbeats 8000000 in
theorem fewer_any {vf vo : Value} {F : List Int} {L : List (List Int)} {q : Int} {n : Nat} {w : World} (hF : Wv w vf F) (hO : Rv w vo L) (lF : F.length = n + 1) (lL : ∀ i, i < L.length → (L.getD i []).length = n + 1) (hn : n ≤ 8) (h8 : L.length ≤ 8)
    (bF : Few F) (bL : ∀ i, Few (L.getD i [])) (bq : q.natAbs < bp 5) (q0 : q ≠ 0) :
    Calls Tryz.prog 57 #[vf, vo, wideV (enc q)] w fun r w' => ∃ z, r = .returned z ∧ Up w w' ∧ ∃ b, w.heap.size ≤ b ∧ OwnR w' b z (L.map fun R => tk F R q n) := by
  have HTK := hid (fun (R : List Int) (vr : Value) (w' : World) (hu : Up w w') (hR : Wv w' vr R) (lR : R.length = n + 1) (bR : Few R) => takenoff_any (hF.up hu) hR lF lR hn bF bR bq q0)
  have HL := hid lL
  have HB := hid bL
  obtain ⟨pF, cF, rfl⟩ := hF.slice
  rw [lF] at HTK ⊢
  obtain ⟨wS, hwS⟩ : ∃ x, w.alloc (.cells (cells 16 (limb (enc q))) 33) = x := ⟨_, rfl⟩
  have hBox : Row wS w.heap.size 33 16 (limb (enc q)) := by rw [← hwS]; exact row_newc _ _ _ rfl
  have hUS : Up w wS := by rw [← hwS]; exact Up.alloc _ _
  have hML : (L.map fun R => tk F R q n).length = L.length := List.length_map ..
  have HML := hid hML
  have HT := hid (fun k (hk : k < L.length) => take_map_succ (fun R => tk F R q n) L [] hk)
  obtain ⟨T, hT⟩ : ∃ T, (L.map fun R => tk F R q n) = T := ⟨_, rfl⟩
  rw [hT] at HML HT ⊢
  clear hT hML lL bL
  rcases Nat.eq_zero_or_pos L.length with hz | hz
  · obtain rfl : L = [] := List.length_eq_zero_iff.1 hz
    obtain rfl : T = [] := List.length_eq_zero_iff.1 HML.out
    obtain ⟨pO, cO, rfl⟩ := hO.slice
    clear hF hO
    unfold wideV at *
    go_enter Tryz.func57, Tryz.ntmps57
    go_wp2_with fail
    go_loopg [7, 12] 1 (fun g tr ti wr => tr = .slice none 0 0 ∧ ti = .int .i64 0 ∧ Up wS wr)
    case atStart => exact ⟨rfl, rfl, Up.refl _⟩
    case round =>
      obtain ⟨rfl, rfl, hu⟩ := hrel
      go_wp2_with fail
      go_ret
      exact ⟨_, rfl, hUS.trans hu, _, Nat.le_refl _, OwnR.nil _ _⟩
  · obtain ⟨gO, o, cO, CO, rfl, -, hBO, hE⟩ := hO.open hz
    have HE := hid hE
    have hBOS := hBO.up hUS
    clear hF hO hBO hE
    unfold wideV at *
    go_enter Tryz.func57, Tryz.ntmps57
    go_wp2_with fail
    go_loopg [7, 12] L.length (fun g tr ti wr => ∃ k : Nat, k ≤ L.length ∧ L.length - k ≤ g ∧ ti = .int .i64 (k : Nat) ∧ OwnR wr wS.heap.size tr (T.take k) ∧ Up wS wr)
    case atStart => exact ⟨0, Nat.zero_le _, by omega, rfl, by rw [List.take_zero]; exact OwnR.nil _ _, Up.refl _⟩
    case round =>
      obtain ⟨k, hk, hkg, rfl, hO, hu⟩ := hrel
      by_cases hlt : k < L.length
      · obtain ⟨s, h1, h2⟩ := HE.out k hlt
        obtain ⟨ps, cs, rfl⟩ := h2.slice
        have hcx := (hBOS.up hu).cell _ h1
        have hBx := hBox.up hu
        have HTKk := hid (fun w' (hu' : Up w w') => HTK.out (L.getD k []) _ w' hu' (h2.up hu') (HL.out k hlt) (HB.out k))
        have hT9 := HT.out k hlt
        have HT9 := hid hT9
        have HTk : Hid ((T.take k).length < 1000000) := hid (by rw [List.length_take, HML.out]; omega)
        clear h1 h2 hT9
        generalize L.getD k [] = R at *
        generalize tk F R q n = TK at *
        go_wp2_with (first
          | ((with_reducible apply ld_rowP undW infoW); exact rfl; exact rfl; exact gRow)
          | (go_at_call 100; (with_reducible refine (HTKk.out _ (hUS.trans hu)).mono ?_); rintro r w3 ⟨z3, rfl, hu3, b3, hb3, hO3⟩; obtain ⟨p3, c3, rfl⟩ := hO3.slice; have hsz3 := hu3.size; have hsz := hu.size)
          | ((with_reducible apply appR); exact rfl; exact rfl; exact OwnR.up (hu3.trans (Up.alloc _ _)) hO; exact (Blk.new _ _ rfl).cell 0 rfl; exact (hO3.up (Up.alloc _ _)).wb (by omega); (focus (simp; omega)); exact HTk.out; rintro v6 w6 hO6 - hb6))
        go_roundg (L.length - (k + 1))
        case measure => omega
        case rel => exact ⟨k + 1, hlt, Nat.le_refl _, rfl, by rw [HT9.out]; exact hO6, Below.trans ((hu.trans hu3).trans (Up.alloc _ _)) hb6⟩
      · obtain rfl : k = L.length := by omega
        rw [← HML.out, List.take_length] at hO
        go_wp2_with fail
        go_ret
        exact ⟨_, rfl, hUS.trans hu, _, hUS.size, hO⟩
theorem leavesR_up {P : Program} {R : Value → World → Prop} {w w' : World} {r : Result Next} {u : Value} (h : r = .ok (.value u) w') (hu : Up w w') (hR : R u w') : LeavesR P R w r := by subst h; exact ⟨hR, hu⟩
def ouC (N : Int) (l : List Int) (x : Int) (h : List Int) : Int := if rt N l && decide ((h.length : Int) = N) then (if (ouL N.toNat l x h).all fit then 0 else 21) else 23
def ouR (N : Int) (l : List Int) (x : Int) (h : List Int) : List Int := if ouC N l x h = 0 then ouL N.toNat l x h else []
def ouN (N : Int) (l : List Int) (x : Int) (h : List Int) : Int := if ouC N l x h = 0 then N else 0
theorem ouL_len (n : Nat) (l : List Int) (x : Int) (h : List Int) : (ouL n l x h).length = l.length := mk_len _ _
theorem ouL_at {n : Nat} {l : List Int} (x : Int) (h : List Int) (hn : n ≤ 8) (hl : l.length = triN n) {i j : Nat} (hij : i ≤ j) (hj : j < n) : zth (ouL n l x h) (pos n i j) = zth l (pos n i j) + x * zth h i * zth h j := by
  unfold ouL
  rw [mk_at (by rw [hl]; exact pos_lt hij hj), prs_at hn hij hj]
theorem fit_i64 {v : Int} (h : fit v = true) : I64 v := by have := of_decide_eq_true h; unfold I64; omega
theorem In64.of_fit {l : List Int} (h : ∀ q, q < l.length → fit (zth l q) = true) : In64 l := fun q hq => fit_i64 (h q hq)
theorem vw_three (w : World) (a b c : Int) : Vw (w.alloc (.cells #[.int .i64 a, .int .i64 b, .int .i64 c] 2)) (.slice (some ⟨w.heap.size, 0, none⟩) 3 3) [a, b, c] := by
  refine ⟨_, 3, rfl, ⟨Nat.le_refl _, fun e => by cases e⟩, fun i hi => ⟨_, rfl, ?_⟩⟩
  rcases i with _ | _ | _ | i
  · simp [zth, Addr.add]
  · simp [zth, Addr.add]
  · simp [zth, Addr.add]
  · simp at hi; omega
theorem ord_len {x y : Nat} (h : nl x < nl y) : x < y := by
  have h1 := lt_bp_nl x
  have h2 := bp_le_nl (show 0 < nl y by omega)
  have h3 := bp_mono (show nl x ≤ nl y - 1 by omega)
  omega
set_option maxHeartbeats 1000000 in
theorem cmp_am {x y : Nat} {va vb : Value} {w : World} (ha : Am w va x) (hb : Am w vb y) (_ : nl x < 1000000) (hy : nl y < 1000000) :
    Calls Tryz.prog 91 #[va, vb] w fun e w' => e = .returned (.int .i64 (ordZ x y)) ∧ Up w w' := by
  obtain ⟨a, ca, rfl, hca1, hca0⟩ := ha.open
  obtain ⟨b, cb, rfl, hcb1, hcb0⟩ := hb.open
  clear ha hb
  rcases Nat.lt_trichotomy (nl x) (nl y) with h | h | h
  · have e : ordZ x y = -1 := by unfold ordZ; rw [if_pos (ord_len h)]
    rw [e]
    have d0 : ((nl x : Int) != (nl y : Nat)) = true := by simp; omega
    have d1 : decide ((nl x : Int) < (nl y : Nat)) = true := decide_eq_true (by omega)
    clear e hca0 hcb0
    generalize nl x = p at *
    generalize nl y = q at *
    go_enter Tryz.func91, Tryz.ntmps91
    go_wp2
    go_ret
    exact ⟨rfl, gUp⟩
  · have H := hid h
    go_enter Tryz.func91, Tryz.ntmps91
    rw [h]
    clear h
    go_wp2
    go_loopw [5] (fun i wr => ∃ m : Nat, m ≤ nl y ∧ i = .int .i64 ((m : Int) - 1) ∧ (∀ i, m ≤ i → i < nl y → limb x i = limb y i) ∧ Below w.heap.size w wr)
      (fun i _ => (intOf i + 1).toNat)
    case atStart => exact ⟨nl y, Nat.le_refl _, rfl, fun i h1 h2 => by omega, Below.refl _ _⟩
    case round =>
      obtain ⟨m, hm, rfl, hgx, hB⟩ := hrel
      have Hgx := hid hgx
      clear hgx
      by_cases hlt : 0 < m
      · obtain ⟨k, rfl⟩ : ∃ k, m = k + 1 := ⟨m - 1, by omega⟩
        have e : (((k + 1 : Nat) : Int) - 1) = (k : Int) := by omega
        rw [e]
        clear e
        have hHy := H.out
        obtain ⟨ba, rfl, hba, hca⟩ := hca0 k (by omega)
        obtain ⟨bb, rfl, hbb, hcb⟩ := hcb0 k (by omega)
        clear hHy
        have hcx := hca wr hB
        have hcy := hcb wr hB
        have hl1 := limb_lt x k
        have hl2 := limb_lt y k
        have sx : sumL (limb x) (nl y) = x := by rw [← H.out]; exact sum_nl x
        have sy := sum_nl y
        have h1 : limb x k < limb y k → ordZ x y = -1 := fun h => by
          have := sumL_lt_of (fun i _ => limb_lt x i) (show k < nl y by omega) (fun j h1 h2 => Hgx.out j (by omega) h2) h
          rw [sx, sy] at this
          simp [ordZ, this]
        have h2 : limb y k < limb x k → ordZ x y = 1 := fun h => by
          have := sumL_lt_of (fun i _ => limb_lt y i) (show k < nl y by omega) (fun j h1 h2 => (Hgx.out j (by omega) h2).symm) h
          rw [sx, sy] at this
          have h3 : ¬ x < y := by omega
          simp [ordZ, this, h3]
        have hE : limb x k = limb y k → ∀ i, k ≤ i → i < nl y → limb x i = limb y i := fun h i h1 h2 => by
          by_cases e : i = k
          · rw [e]; exact h
          · exact Hgx.out i (by omega) h2
        have H1 := hid h1
        have H2 := hid h2
        have HE := hid hE
        clear sx sy h1 h2 hE hca hcb hca0 hcb0
        generalize limb x k = lx at *
        generalize limb y k = ly at *
        rcases Nat.lt_trichotomy lx ly with h | h | h
        · have d0 : ((lx : Int) != ly) = true := by simp; omega
          have d1 : decide ((lx : Int) < ly) = true := decide_eq_true (by omega)
          go_wp2
          go_quiet (fail)
          go_wp2
          go_quiet (fail)
          go_wp2
          go_ret
          exact ⟨ret_int (H1.out h).symm, below_drewN (below_drewN hB _) _⟩
        · have HF := hid (HE.out h)
          have d0 : ((lx : Int) != ly) = false := by simp; omega
          clear HE
          go_wp2
          go_quiet (fail)
          go_wp2
          go_roundw
          case rel => exact ⟨k, by omega, by go_num, HF.out, below_drewN hB _⟩
          case measure => simp [intOf] <;> omega
        · have d0 : ((lx : Int) != ly) = true := by simp; omega
          have d1 : decide ((lx : Int) < ly) = false := decide_eq_false (by omega)
          go_wp2
          go_quiet (fail)
          go_wp2
          go_quiet (fail)
          go_wp2
          go_ret
          exact ⟨ret_int (H2.out h).symm, below_drewN (below_drewN hB _) _⟩
      · obtain rfl : m = 0 := by omega
        have h0 : x = y := by
          rw [← sum_nl x, ← sum_nl y, H.out]
          exact sumL_congr fun i hi => Hgx.out i (by omega) hi
        have H0 := hid h0
        clear h0
        go_wp2
        go_ret
        exact ⟨ret_int (by simp [ordZ, H0.out]), hB⟩
  · have e : ordZ x y = 1 := by
      have := ord_len h
      unfold ordZ
      rw [if_neg (by omega)]
      first | rw [if_neg (by omega)] | rw [if_pos (by omega)]
    rw [e]
    have d0 : ((nl x : Int) != (nl y : Nat)) = true := by simp; omega
    have d1 : decide ((nl x : Int) < (nl y : Nat)) = false := decide_eq_false (by omega)
    clear e hca0 hcb0
    generalize nl x = p at *
    generalize nl y = q at *
    go_enter Tryz.func91, Tryz.ntmps91
    go_wp2
    go_ret
    exact ⟨rfl, gUp⟩
theorem Am.setRow {w : World} {v : Value} {x g : Nat} {C D : Array Value} (h : Am w v x) (hg : Blk w g 46 C) : Am (w.setRow g D) v x := by
  obtain ⟨a, c, h1, h2, h3⟩ := h
  refine ⟨a, c, h1, h2, fun h0 => ?_⟩
  obtain ⟨b, E, h4, h6, h7⟩ := h3 h0
  refine ⟨b, E, h4, h6.row_other D ?_, h7⟩
  rintro rfl
  unfold Blk at *
  rw [hg] at h6
  simp at h6
theorem Big.setRow {w : World} {v : Value} {z : Int} {g : Nat} {C D : Array Value} (h : Big w v z) (hg : Blk w g 46 C) : Big (w.setRow g D) v z := by
  obtain ⟨a, c, h1, h2⟩ := h
  exact ⟨a, c, h1, h2.setRow hg⟩
theorem Big.shape {w : World} {v : Value} {z : Int} (h : Big w v z) : ∃ b a n c, v = .agg #[.bool b, .slice a n c] := by
  obtain ⟨a, c, h1, _⟩ := h
  exact ⟨_, a, _, c, h1⟩
theorem pm_int (z : Int) : z = pm (decide (z < 0)) z.natAbs := by
  by_cases h : z < 0 <;> simp [pm, h] <;> omega
theorem pm_same (p : Bool) (X Y : Nat) : pm p X + pm p Y = pm p (X + Y) := by cases p <;> simp [pm] <;> omega
theorem pm_more {p : Bool} {X Y : Nat} (h : Y ≤ X) : pm p X + pm (!p) Y = pm p (X - Y) := by cases p <;> simp [pm] <;> omega
theorem pm_less {p : Bool} {X Y : Nat} (h : X < Y) : pm p X + pm (!p) Y = pm (!p) (Y - X) := by cases p <;> simp [pm] <;> omega
set_option maxHeartbeats 1000000 in
theorem add_pm (p q : Bool) (X Y : Nat) (a b : Option Addr) (ca cb : Nat) (w : World) (hA : Am w (.slice a (nl X) ca) X) (hB : Am w (.slice b (nl Y) cb) Y) (hx : nl X < 50000) (hy : nl Y < 50000) :
    Calls Tryz.prog 45 #[.agg #[.bool p, .slice a (nl X) ca], .agg #[.bool q, .slice b (nl Y) cb]] w fun e w' => Up w w' ∧ ∃ v, e = .returned v ∧ Big w' v (pm p X + pm q Y) := by
  by_cases hpq : p = q
  · subst hpq
    rw [pm_same]
    go_enter Tryz.func45, Tryz.ntmps45
    go_wp2
    refine wp_region_upH (S := (fun wq => Blk wq (w.heap.size + 1 + 1) 46 #[.bool false, .slice none 0 0] ∧ wq.cell? ⟨w.heap.size, 0, none⟩ = some (.bool p) ∧ wq.cell? ⟨w.heap.size, 1, none⟩ = some (.slice a (nl X) ca) ∧ wq.cell? ⟨w.heap.size + 1, 1, none⟩ = some (.slice b (nl Y) cb) ∧ Below w.heap.size w wq)) (req := (fun j => j != 8)) (by kernel_rfl) (fun _ _ h hu => ⟨(h.1).up hu, hu.cell (h.2.1), hu.cell (h.2.2.1), hu.cell (h.2.2.2.1), below_up (h.2.2.2.2) hu⟩) ⟨gBlk, (by first | assumption | (apply Blk.cell; exact gBlk; exact rfl)), (by first | assumption | (apply Blk.cell; exact gBlk; exact rfl)), (by first | assumption | (apply Blk.cell; exact gBlk; exact rfl)), gUp⟩ (fun wS hSS hSu => ?_)
    have ⟨hS1, hS2, hS3, hS4, hSB⟩ := hSS
    refine wpAnyU_pure (i := 0) (d := (some 10)) (v := ?_) rfl rfl (by kernel_rfl) (fun _ _ _ h => h) hSu.out (Or.inl ⟨by rfl, fun w' _ => yu_value ?_⟩) ?_
    rotate_left
    · (go_simp; (try exact rfl))
    try simp only [Act.put, pu1, pu2, pu3]
    refine wpAnyU_take (i := 1) (d := (some 11)) (v := ?_) rfl rfl (by kernel_rfl) (fun _ _ _ h => h) hSu.out hSS (Or.inl ⟨by rfl, fun w' hSw => yu_value ?_⟩) ?_
    rotate_left
    · ((try dsimp only at hSw); (try obtain ⟨_, _, _, _, _⟩ := hSw); go_simp; (try exact rfl))
    try simp only [Act.put, pu1, pu2, pu3]
    refine wpAnyU_pure (i := 2) (d := (some 12)) (v := ?_) rfl rfl (by kernel_rfl) (fun _ _ _ h => h) hSu.out (Or.inl ⟨by rfl, fun w' _ => yu_value ?_⟩) ?_
    rotate_left
    · (go_simp; (try exact rfl))
    try simp only [Act.put, pu1, pu2, pu3]
    refine wpAnyU_take (i := 3) (d := (some 13)) (v := ?_) rfl rfl (by kernel_rfl) (fun _ _ _ h => h) hSu.out hSS (Or.inl ⟨by rfl, fun w' hSw => yu_value ?_⟩) ?_
    rotate_left
    · ((try dsimp only at hSw); (try obtain ⟨_, _, _, _, _⟩ := hSw); go_simp; (try exact rfl))
    try simp only [Act.put, pu1, pu2, pu3]
    refine wpAnyU_pure (i := 4) (d := (some 14)) (v := ?_) rfl rfl (by kernel_rfl) (fun _ _ _ h => h) hSu.out (Or.inl ⟨by rfl, fun w' _ => yu_value ?_⟩) ?_
    rotate_left
    · (go_simp; (try exact rfl))
    try simp only [Act.put, pu1, pu2, pu3]
    refine wpAnyU_take (i := 5) (d := (some 15)) (v := ?_) rfl rfl (by kernel_rfl) (fun _ _ _ h => h) hSu.out hSS (Or.inl ⟨by rfl, fun w' hSw => yu_value ?_⟩) ?_
    rotate_left
    · ((try dsimp only at hSw); (try obtain ⟨_, _, _, _, _⟩ := hSw); go_simp; (try exact rfl))
    try simp only [Act.put, pu1, pu2, pu3]
    refine wpAnyU_callE (i := 6) (d := (some 16)) rfl rfl (by kernel_rfl) (by rfl) hSu.out (fun w' => by go_simp) (fun w' hw' => plus_am (hA.up (below_up hSB hw')) (hB.up (below_up hSB hw')) (by omega) (by omega)) fun vP wP hwP hRP => ?_
    try simp only [Act.put, pu1, pu2, pu3]
    obtain ⟨a1, c1, rfl⟩ := hRP.shape
    refine wpAnyU_callE (i := 7) (d := (some 17)) rfl rfl (by kernel_rfl) (by rfl) hSu.out (fun w' => by go_simp) (fun w' hw' => callE_of (made_any p a1 (nl (X + Y)) c1 w')) fun vM wM hwM hRM => ?_
    try simp only [Act.put, pu1, pu2, pu3]
    subst hRM
    refine wpAnyU_one (i := 8) rfl (by kernel_rfl) (by rfl) fun w2 hw2 => ?_
    have gK := ((hS1.up hwP).up hwM).up hw2
    refine wp_stB rfl rfl rfl rfl gK rfl rfl (one2 _ _ _ _) ?_
    refine ⟨fun h => by simp at h, ?_⟩
    try simp only [Act.put, pu1, pu2, pu3]
    refine wpAnyU_done (by kernel_rfl) (fun wF huE => ?_) _
    have gR := (gK.setRow #[.bool (p && decide (0 < nl (X + Y))), .slice a1 (nl (X + Y)) c1]).up huE
    have gA := (((hRP.up hwM).up hw2).setRow (D := #[.bool (p && decide (0 < nl (X + Y))), .slice a1 (nl (X + Y)) c1]) gK).up huE
    have gB := below_up (below_setRow (below_up (below_up (below_up hSB hwP) hwM) hw2) (show w.heap.size ≤ w.heap.size + 1 + 1 by omega) #[.bool (p && decide (0 < nl (X + Y))), .slice a1 (nl (X + Y)) c1]) huE
    have gBig := big_made p gA
    clear gK hRP hwP hwM hw2 huE hS1 hS2 hS3 hS4 hSB hSS gA
    go_wp2
    exact bodyPost_ret (resB rfl rfl gR rfl) rfl ⟨gB, _, rfl, gBig⟩
  · have hq : q = !p := by cases p <;> cases q <;> simp_all
    subst hq
    have d0 : (p == !p) = false := by cases p <;> rfl
    clear hpq
    by_cases hc : Y ≤ X
    · rw [pm_more hc]
      have d1 : decide (0 ≤ ordZ X Y) = true := by
        unfold ordZ
        rw [if_neg (by omega)]
        split <;> simp
      go_enter Tryz.func45, Tryz.ntmps45
      go_wp2_with (first | (go_at_call 91; (with_reducible refine (cmp_am (hA.up gUp) (hB.up gUp) (by omega) (by omega)).mono ?_); rintro e wC ⟨rfl, huC⟩))
      refine wp_region_upH (S := (fun wq => Blk wq (w.heap.size + 1 + 1) 46 #[.bool false, .slice none 0 0] ∧ wq.cell? ⟨w.heap.size, 0, none⟩ = some (.bool p) ∧ wq.cell? ⟨w.heap.size, 1, none⟩ = some (.slice a (nl X) ca) ∧ wq.cell? ⟨w.heap.size + 1, 1, none⟩ = some (.slice b (nl Y) cb) ∧ Below w.heap.size w wq)) (req := (fun j => j != 8)) (by kernel_rfl) (fun _ _ h hu => ⟨(h.1).up hu, hu.cell (h.2.1), hu.cell (h.2.2.1), hu.cell (h.2.2.2.1), below_up (h.2.2.2.2) hu⟩) ⟨gBlk, (by first | assumption | (apply Blk.cell; exact gBlk; exact rfl)), (by first | assumption | (apply Blk.cell; exact gBlk; exact rfl)), (by first | assumption | (apply Blk.cell; exact gBlk; exact rfl)), gUp⟩ (fun wS hSS hSu => ?_)
      have ⟨hS1, hS2, hS3, hS4, hSB⟩ := hSS
      refine wpAnyU_pure (i := 0) (d := (some 24)) (v := ?_) rfl rfl (by kernel_rfl) (fun _ _ _ h => h) hSu.out (Or.inl ⟨by rfl, fun w' _ => yu_value ?_⟩) ?_
      rotate_left
      · (go_simp; (try exact rfl))
      try simp only [Act.put, pu1, pu2, pu3]
      refine wpAnyU_take (i := 1) (d := (some 25)) (v := ?_) rfl rfl (by kernel_rfl) (fun _ _ _ h => h) hSu.out hSS (Or.inl ⟨by rfl, fun w' hSw => yu_value ?_⟩) ?_
      rotate_left
      · ((try dsimp only at hSw); (try obtain ⟨_, _, _, _, _⟩ := hSw); go_simp; (try exact rfl))
      try simp only [Act.put, pu1, pu2, pu3]
      refine wpAnyU_pure (i := 2) (d := (some 26)) (v := ?_) rfl rfl (by kernel_rfl) (fun _ _ _ h => h) hSu.out (Or.inl ⟨by rfl, fun w' _ => yu_value ?_⟩) ?_
      rotate_left
      · (go_simp; (try exact rfl))
      try simp only [Act.put, pu1, pu2, pu3]
      refine wpAnyU_take (i := 3) (d := (some 27)) (v := ?_) rfl rfl (by kernel_rfl) (fun _ _ _ h => h) hSu.out hSS (Or.inl ⟨by rfl, fun w' hSw => yu_value ?_⟩) ?_
      rotate_left
      · ((try dsimp only at hSw); (try obtain ⟨_, _, _, _, _⟩ := hSw); go_simp; (try exact rfl))
      try simp only [Act.put, pu1, pu2, pu3]
      refine wpAnyU_pure (i := 4) (d := (some 28)) (v := ?_) rfl rfl (by kernel_rfl) (fun _ _ _ h => h) hSu.out (Or.inl ⟨by rfl, fun w' _ => yu_value ?_⟩) ?_
      rotate_left
      · (go_simp; (try exact rfl))
      try simp only [Act.put, pu1, pu2, pu3]
      refine wpAnyU_take (i := 5) (d := (some 29)) (v := ?_) rfl rfl (by kernel_rfl) (fun _ _ _ h => h) hSu.out hSS (Or.inl ⟨by rfl, fun w' hSw => yu_value ?_⟩) ?_
      rotate_left
      · ((try dsimp only at hSw); (try obtain ⟨_, _, _, _, _⟩ := hSw); go_simp; (try exact rfl))
      try simp only [Act.put, pu1, pu2, pu3]
      refine wpAnyU_callE (i := 6) (d := (some 30)) rfl rfl (by kernel_rfl) (by rfl) hSu.out (fun w' => by go_simp) (fun w' hw' => minus_am (hA.up (below_up hSB hw')) (hB.up (below_up hSB hw')) (by omega) hc) fun vP wP hwP hRP => ?_
      try simp only [Act.put, pu1, pu2, pu3]
      obtain ⟨a1, c1, rfl⟩ := hRP.shape
      refine wpAnyU_callE (i := 7) (d := (some 31)) rfl rfl (by kernel_rfl) (by rfl) hSu.out (fun w' => by go_simp) (fun w' hw' => callE_of (made_any p a1 (nl (X - Y)) c1 w')) fun vM wM hwM hRM => ?_
      try simp only [Act.put, pu1, pu2, pu3]
      subst hRM
      refine wpAnyU_one (i := 8) rfl (by kernel_rfl) (by rfl) fun w2 hw2 => ?_
      have gK := ((hS1.up hwP).up hwM).up hw2
      refine wp_stB rfl rfl rfl rfl gK rfl rfl (one2 _ _ _ _) ?_
      refine ⟨fun h => by simp at h, ?_⟩
      try simp only [Act.put, pu1, pu2, pu3]
      refine wpAnyU_done (by kernel_rfl) (fun wF huE => ?_) _
      have gR := (gK.setRow #[.bool (p && decide (0 < nl (X - Y))), .slice a1 (nl (X - Y)) c1]).up huE
      have gA := (((hRP.up hwM).up hw2).setRow (D := #[.bool (p && decide (0 < nl (X - Y))), .slice a1 (nl (X - Y)) c1]) gK).up huE
      have gB := below_up (below_setRow (below_up (below_up (below_up hSB hwP) hwM) hw2) (show w.heap.size ≤ w.heap.size + 1 + 1 by omega) #[.bool (p && decide (0 < nl (X - Y))), .slice a1 (nl (X - Y)) c1]) huE
      have gBig := big_made p gA
      clear gK hRP hwP hwM hw2 huE hS1 hS2 hS3 hS4 hSB hSS gA
      go_wp2
      exact bodyPost_ret (resB rfl rfl gR rfl) rfl ⟨gB, _, rfl, gBig⟩
    · rw [pm_less (by omega)]
      have d1 : decide (0 ≤ ordZ X Y) = false := by
        unfold ordZ
        rw [if_pos (by omega)]
        rfl
      go_enter Tryz.func45, Tryz.ntmps45
      go_wp2_with (first | (go_at_call 91; (with_reducible refine (cmp_am (hA.up gUp) (hB.up gUp) (by omega) (by omega)).mono ?_); rintro e wC ⟨rfl, huC⟩))
      refine wp_region_upH (S := (fun wq => Blk wq (w.heap.size + 1 + 1) 46 #[.bool false, .slice none 0 0] ∧ wq.cell? ⟨w.heap.size + 1, 0, none⟩ = some (.bool (!p)) ∧ wq.cell? ⟨w.heap.size + 1, 1, none⟩ = some (.slice b (nl Y) cb) ∧ wq.cell? ⟨w.heap.size, 1, none⟩ = some (.slice a (nl X) ca) ∧ Below w.heap.size w wq)) (req := (fun j => j != 8)) (by kernel_rfl) (fun _ _ h hu => ⟨(h.1).up hu, hu.cell (h.2.1), hu.cell (h.2.2.1), hu.cell (h.2.2.2.1), below_up (h.2.2.2.2) hu⟩) ⟨gBlk, (by first | assumption | (apply Blk.cell; exact gBlk; exact rfl)), (by first | assumption | (apply Blk.cell; exact gBlk; exact rfl)), (by first | assumption | (apply Blk.cell; exact gBlk; exact rfl)), gUp⟩ (fun wS hSS hSu => ?_)
      have ⟨hS1, hS2, hS3, hS4, hSB⟩ := hSS
      refine wpAnyU_pure (i := 0) (d := (some 32)) (v := ?_) rfl rfl (by kernel_rfl) (fun _ _ _ h => h) hSu.out (Or.inl ⟨by rfl, fun w' _ => yu_value ?_⟩) ?_
      rotate_left
      · (go_simp; (try exact rfl))
      try simp only [Act.put, pu1, pu2, pu3]
      refine wpAnyU_take (i := 1) (d := (some 33)) (v := ?_) rfl rfl (by kernel_rfl) (fun _ _ _ h => h) hSu.out hSS (Or.inl ⟨by rfl, fun w' hSw => yu_value ?_⟩) ?_
      rotate_left
      · ((try dsimp only at hSw); (try obtain ⟨_, _, _, _, _⟩ := hSw); go_simp; (try exact rfl))
      try simp only [Act.put, pu1, pu2, pu3]
      refine wpAnyU_pure (i := 2) (d := (some 34)) (v := ?_) rfl rfl (by kernel_rfl) (fun _ _ _ h => h) hSu.out (Or.inl ⟨by rfl, fun w' _ => yu_value ?_⟩) ?_
      rotate_left
      · (go_simp; (try exact rfl))
      try simp only [Act.put, pu1, pu2, pu3]
      refine wpAnyU_take (i := 3) (d := (some 35)) (v := ?_) rfl rfl (by kernel_rfl) (fun _ _ _ h => h) hSu.out hSS (Or.inl ⟨by rfl, fun w' hSw => yu_value ?_⟩) ?_
      rotate_left
      · ((try dsimp only at hSw); (try obtain ⟨_, _, _, _, _⟩ := hSw); go_simp; (try exact rfl))
      try simp only [Act.put, pu1, pu2, pu3]
      refine wpAnyU_pure (i := 4) (d := (some 36)) (v := ?_) rfl rfl (by kernel_rfl) (fun _ _ _ h => h) hSu.out (Or.inl ⟨by rfl, fun w' _ => yu_value ?_⟩) ?_
      rotate_left
      · (go_simp; (try exact rfl))
      try simp only [Act.put, pu1, pu2, pu3]
      refine wpAnyU_take (i := 5) (d := (some 37)) (v := ?_) rfl rfl (by kernel_rfl) (fun _ _ _ h => h) hSu.out hSS (Or.inl ⟨by rfl, fun w' hSw => yu_value ?_⟩) ?_
      rotate_left
      · ((try dsimp only at hSw); (try obtain ⟨_, _, _, _, _⟩ := hSw); go_simp; (try exact rfl))
      try simp only [Act.put, pu1, pu2, pu3]
      refine wpAnyU_callE (i := 6) (d := (some 38)) rfl rfl (by kernel_rfl) (by rfl) hSu.out (fun w' => by go_simp) (fun w' hw' => minus_am (hB.up (below_up hSB hw')) (hA.up (below_up hSB hw')) (by omega) (by omega)) fun vP wP hwP hRP => ?_
      try simp only [Act.put, pu1, pu2, pu3]
      obtain ⟨a1, c1, rfl⟩ := hRP.shape
      refine wpAnyU_callE (i := 7) (d := (some 39)) rfl rfl (by kernel_rfl) (by rfl) hSu.out (fun w' => by go_simp) (fun w' hw' => callE_of (made_any (!p) a1 (nl (Y - X)) c1 w')) fun vM wM hwM hRM => ?_
      try simp only [Act.put, pu1, pu2, pu3]
      subst hRM
      refine wpAnyU_one (i := 8) rfl (by kernel_rfl) (by rfl) fun w2 hw2 => ?_
      have gK := ((hS1.up hwP).up hwM).up hw2
      refine wp_stB rfl rfl rfl rfl gK rfl rfl (one2 _ _ _ _) ?_
      refine ⟨fun h => by simp at h, ?_⟩
      try simp only [Act.put, pu1, pu2, pu3]
      refine wpAnyU_done (by kernel_rfl) (fun wF huE => ?_) _
      have gR := (gK.setRow #[.bool ((!p) && decide (0 < nl (Y - X))), .slice a1 (nl (Y - X)) c1]).up huE
      have gA := (((hRP.up hwM).up hw2).setRow (D := #[.bool ((!p) && decide (0 < nl (Y - X))), .slice a1 (nl (Y - X)) c1]) gK).up huE
      have gB := below_up (below_setRow (below_up (below_up (below_up hSB hwP) hwM) hw2) (show w.heap.size ≤ w.heap.size + 1 + 1 by omega) #[.bool ((!p) && decide (0 < nl (Y - X))), .slice a1 (nl (Y - X)) c1]) huE
      have gBig := big_made (!p) gA
      clear gK hRP hwP hwM hw2 huE hS1 hS2 hS3 hS4 hSB hSS gA
      go_wp2
      exact bodyPost_ret (resB rfl rfl gR rfl) rfl ⟨gB, _, rfl, gBig⟩
theorem add_big {x y : Int} {va vb : Value} {w : World} (ha : Big w va x) (hb : Big w vb y) (hx : nl x.natAbs < 50000) (hy : nl y.natAbs < 50000) :
    Calls Tryz.prog 45 #[va, vb] w fun e w' => Up w w' ∧ ∃ v, e = .returned v ∧ Big w' v (x + y) := by
  obtain ⟨a, ca, rfl, hA⟩ := ha
  obtain ⟨b, cb, rfl, hB⟩ := hb
  have h := add_pm (decide (x < 0)) (decide (y < 0)) x.natAbs y.natAbs a b ca cb w hA hB hx hy
  rw [← pm_int, ← pm_int] at h
  exact h
theorem mul64_up (x y : Nat) (hx : x < 18446744073709551616) (hy : y < 18446744073709551616) {h l : Nat} (eh : h = x * y / 18446744073709551616) (el : l = x * y % 18446744073709551616) (w : World) :
    Calls Tryz.prog 109 #[.int .u64 x, .int .u64 y] w fun e w' => e = .returned (.tuple #[.int .u64 (h : Nat), .int .u64 (l : Nat)]) ∧ Up w w' := by
  refine (Tryz.bits_Mul64 x y hx hy w).mono ?_
  rintro e w' ⟨rfl, rfl⟩
  exact ⟨by rw [eh, el], Up.refl _⟩
set_option maxHeartbeats 2000000 in
theorem times_am {x y : Nat} {va vb : Value} {w : World} (ha : Am w va x) (hb : Am w vb y) (hx : nl x < 100000) (hy : nl y < 100000) :
    Calls Tryz.prog 69 #[va, vb] w fun e w' => Up w w' ∧ ∃ v, e = .returned v ∧ Am w' v (x * y) := by
  obtain ⟨a, ca, rfl, hca1, hca0⟩ := ha.open
  obtain ⟨b, cb, rfl, hcb1, hcb0⟩ := hb.open
  have HSX := hid (sum_nl x)
  have HSY := hid (sum_nl y)
  clear ha hb
  generalize nl x = n at *
  generalize nl y = m at *
  go_enter Tryz.func69, Tryz.ntmps69
  go_wp2_with (first | ((with_reducible apply mkP (n := n + m)); exact rfl; (first | rfl | omega); omega))
  go_loopw [6] (fun ti wr => ∃ (i : Nat) (S : Nat → Nat), i ≤ n ∧ ti = .int .i64 (i : Nat) ∧ (∀ j, j < n + m → S j < 18446744073709551616) ∧ sumL S (n + m) = sumL (limb x) i * sumL (limb y) m ∧ (∀ j, i + m ≤ j → j < n + m → S j = 0) ∧ Row wr w.heap.size 31 (n + m) S ∧ Below w.heap.size w wr)
    (fun ti _ => n - (intOf ti).toNat)
  case atStart => exact ⟨0, fun _ => 0, by omega, rfl, fun _ _ => by simp, by rw [sumL_zero, Nat.zero_mul]; exact sumL_zeros _, fun _ _ _ => rfl, row_newc _ _ _ rfl, (by repeat (first | assumption | (with_reducible exact Below.refl _ _) | ((with_reducible apply bl_alloc); (focus (first | exact Nat.le_refl _ | (simp; done) | (simp; omega) | omega)))))⟩
  case round =>
    obtain ⟨i, S, hi, rfl, hSb, hsum, hz, hM, hB⟩ := hrel
    have HSb := hid hSb
    have Hsum := hid hsum
    have Hz := hid hz
    clear hSb hsum hz
    obtain ⟨wo, rfl⟩ : ∃ wo : World, wo = wr := ⟨_, rfl⟩
    by_cases hlt : i < n
    · obtain ⟨ba, rfl, hba, hca⟩ := hca0 i hlt
      go_wp2
      go_loopw [7, 8] (fun tc tk wi => ∃ (k c : Nat) (S' : Nat → Nat), k ≤ m ∧ tk = .int .i64 (k : Nat) ∧ tc = .int .u64 (c : Nat) ∧ c < 18446744073709551616 ∧ (∀ j, j < n + m → S' j < 18446744073709551616) ∧
          sumL S' (n + m) + c * (bp i * bp k) = sumL (limb x) i * sumL (limb y) m + limb x i * bp i * sumL (limb y) k ∧ (∀ j, i + m ≤ j → j < n + m → S' j = 0) ∧ Row wi w.heap.size 31 (n + m) S' ∧ Below w.heap.size w wi)
        (fun _ tk _ => m - (intOf tk).toNat)
      case atStart => exact ⟨0, 0, S, by omega, rfl, rfl, by omega, HSb.out, by rw [sumL_zero, Hsum.out]; omega, Hz.out, hM, hB⟩
      case round =>
        clear hM hB HSb Hsum Hz
        obtain ⟨k, c, S', hk, rfl, rfl, hc, hSb, hsum, hz, hM, hB⟩ := hrel
        have HSb := hid hSb
        have Hsum := hid hsum
        have Hz := hid hz
        clear hSb hsum hz
        by_cases hkt : k < m
        · obtain ⟨bb, rfl, hbb, hcb⟩ := hcb0 k hkt
          have hcx := hca _ hB
          have hcy := hcb _ hB
          obtain ⟨h, eh⟩ : ∃ h, h = limb x i * limb y k / 18446744073709551616 := ⟨_, rfl⟩
          obtain ⟨l, el⟩ : ∃ l, l = limb x i * limb y k % 18446744073709551616 := ⟨_, rfl⟩
          have hlx' := limb_lt x i
          have hly' := limb_lt y k
          have HM := hid (fun w => mul64_up _ _ hlx' hly' eh el w)
          have hsk := HSb.out (i + k) (by omega)
          obtain ⟨r1, c1, HA, e1, f1⟩ : ∃ r c : Nat, (∀ w, (callFunc 107 #[.int .u64 (l : Nat), .int .u64 (S' (i + k) : Nat), .int .u64 0]).run Tryz.prog w = .ok (.value (.tuple #[.int .u64 (r : Nat), .int .u64 (c : Nat)])) w) ∧
            r = (l + S' (i + k) + 0) % 18446744073709551616 ∧ c = (l + S' (i + k) + 0) / 18446744073709551616 := ⟨_, _, run_add l (S' (i + k)) 0 (by omega), rfl, rfl⟩
          obtain ⟨r2, c2, HA2, e2, f2⟩ : ∃ r cc : Nat, (∀ w, (callFunc 107 #[.int .u64 (r1 : Nat), .int .u64 (c : Nat), .int .u64 0]).run Tryz.prog w = .ok (.value (.tuple #[.int .u64 (r : Nat), .int .u64 (cc : Nat)])) w) ∧
            r = (r1 + c + 0) % 18446744073709551616 ∧ cc = (r1 + c + 0) / 18446744073709551616 := ⟨_, _, run_add r1 c 0 (by omega), rfl, rfl⟩
          obtain ⟨g1, g2, g3⟩ := step_arith hlx' hly' hsk hc eh el e1 f1 e2 f2
          obtain ⟨hr, hc', hrc⟩ := step_bound hlx' hly' hsk hc g2 g3
          have Hrc := hid hrc
          obtain ⟨h1, eh1⟩ : ∃ h1, h1 = h + c1 := ⟨_, rfl⟩
          obtain ⟨h2, eh2⟩ : ∃ h2, h2 = h1 + c2 := ⟨_, rfl⟩
          have w1 : IntKind.u64.wrap ((h : Int) + c1) = (h1 : Nat) := by rw [IntKind.wrap_u64]; omega
          have w2 : IntKind.u64.wrap ((h1 : Int) + c2) = (h2 : Nat) := by rw [IntKind.wrap_u64]; omega
          have hh2 : h2 < 18446744073709551616 := by omega
          have Hh2 := hid (show h + c1 + c2 = h2 by omega)
          clear e1 f1 e2 f2 g1 g2 g3 hrc eh el eh1 eh2 hc'
          go_wp2
          refine wp_region_upH (S := (fun wq => Row wq w.heap.size 31 (n + m) S' ∧ wq.cell? ⟨ba, i, none⟩ = some (.int .u64 (limb x i : Nat)) ∧ wq.cell? ⟨bb, k, none⟩ = some (.int .u64 (limb y k : Nat)) ∧ Below w.heap.size w wq)) (req := (fun _ => true)) (by kernel_rfl) (fun _ _ h hu => ⟨(h.1).up hu, hu.cell (h.2.1), hu.cell (h.2.2.1), below_up (h.2.2.2) hu⟩) ⟨gRow, (by first | assumption | (apply Blk.cell; exact gBlk; exact rfl)), (by first | assumption | (apply Blk.cell; exact gBlk; exact rfl)), gUp⟩ (fun wS hSS hSu => ?_)
          have ⟨hS1, hS2, hS3, hSB⟩ := hSS
          clear hcx hcy hM hB
          refine wpAnyU_pure (i := 0) (d := (some 31)) (v := ?_) rfl rfl (by kernel_rfl) (fun _ _ _ h => h) hSu.out (Or.inl ⟨by rfl, fun w' _ => yu_value ?_⟩) ?_
          rotate_left
          · (go_simp; (try exact rfl))
          try simp only [Act.put, pu1, pu2, pu3]
          refine wpAnyU_pure (i := 1) (d := (some 32)) (v := ?_) rfl rfl (by kernel_rfl) (fun _ _ _ h => h) hSu.out (Or.inl ⟨by rfl, fun w' _ => yu_value ?_⟩) ?_
          rotate_left
          · (go_simp; (try exact rfl))
          try simp only [Act.put, pu1, pu2, pu3]
          refine wpAnyU_pure (i := 2) (d := (some 33)) (v := ?_) rfl rfl (by kernel_rfl) (fun _ _ _ h => h) hSu.out (Or.inl ⟨by rfl, fun w' _ => yu_value ?_⟩) ?_
          rotate_left
          · (go_simp; (try exact rfl))
          try simp only [Act.put, pu1, pu2, pu3]
          refine wpAnyU_take (i := 3) (d := (some 34)) (v := ?_) rfl rfl (by kernel_rfl) (fun _ _ _ h => h) hSu.out hSS (Or.inl ⟨by rfl, fun w' hSw => yu_value ?_⟩) ?_
          rotate_left
          · ((try dsimp only at hSw); (try obtain ⟨_, _, _, _⟩ := hSw); go_simp; (try exact rfl))
          try simp only [Act.put, pu1, pu2, pu3]
          refine wpAnyU_pure (i := 4) (d := (some 35)) (v := ?_) rfl rfl (by kernel_rfl) (fun _ _ _ h => h) hSu.out (Or.inl ⟨by rfl, fun w' _ => yu_value ?_⟩) ?_
          rotate_left
          · (go_simp; (try exact rfl))
          try simp only [Act.put, pu1, pu2, pu3]
          refine wpAnyU_pure (i := 5) (d := (some 36)) (v := ?_) rfl rfl (by kernel_rfl) (fun _ _ _ h => h) hSu.out (Or.inl ⟨by rfl, fun w' _ => yu_value ?_⟩) ?_
          rotate_left
          · (go_simp; (try exact rfl))
          try simp only [Act.put, pu1, pu2, pu3]
          refine wpAnyU_pure (i := 6) (d := (some 37)) (v := ?_) rfl rfl (by kernel_rfl) (fun _ _ _ h => h) hSu.out (Or.inl ⟨by rfl, fun w' _ => yu_value ?_⟩) ?_
          rotate_left
          · (go_simp; (try exact rfl))
          try simp only [Act.put, pu1, pu2, pu3]
          refine wpAnyU_take (i := 7) (d := (some 38)) (v := ?_) rfl rfl (by kernel_rfl) (fun _ _ _ h => h) hSu.out hSS (Or.inl ⟨by rfl, fun w' hSw => yu_value ?_⟩) ?_
          rotate_left
          · ((try dsimp only at hSw); (try obtain ⟨_, _, _, _⟩ := hSw); go_simp; (try exact rfl))
          try simp only [Act.put, pu1, pu2, pu3]
          refine wpAnyU_take (i := 8) (d := (some 39)) (v := _) rfl rfl (by kernel_rfl) (fun _ _ _ h => h) hSu.out hSS (Or.inl ⟨by rfl, fun w' hSw => yu_call ?_ (HM.out _)⟩) ?_
          · go_simp
          try simp only [Act.put, pu1, pu2, pu3]
          refine wpAnyU_pure (i := 9) (d := (some 30)) (v := ?_) rfl rfl (by kernel_rfl) (fun _ _ _ h => h) hSu.out (Or.inl ⟨by rfl, fun w' _ => yu_value ?_⟩) ?_
          rotate_left
          · (go_simp; (try exact rfl))
          try simp only [Act.put, pu1, pu2, pu3]
          refine wpAnyU_pure (i := 10) (d := (some 40)) (v := ?_) rfl rfl (by kernel_rfl) (fun _ _ _ h => h) hSu.out (Or.inl ⟨by rfl, fun w' _ => yu_value ?_⟩) ?_
          rotate_left
          · (go_simp; (try exact rfl))
          try simp only [Act.put, pu1, pu2, pu3]
          refine wpAnyU_pure (i := 11) (d := (some 41)) (v := ?_) rfl rfl (by kernel_rfl) (fun _ _ _ h => h) hSu.out (Or.inl ⟨by rfl, fun w' _ => yu_value ?_⟩) ?_
          rotate_left
          · (go_simp; (try exact rfl))
          try simp only [Act.put, pu1, pu2, pu3]
          refine wpAnyU_pure (i := 12) (d := (some 9)) (v := ?_) rfl rfl (by kernel_rfl) (fun _ _ _ h => h) hSu.out (Or.inl ⟨by rfl, fun w' _ => yu_value ?_⟩) ?_
          rotate_left
          · (go_simp; (try exact rfl))
          try simp only [Act.put, pu1, pu2, pu3]
          refine wpAnyU_pure (i := 13) (d := (some 10)) (v := ?_) rfl rfl (by kernel_rfl) (fun _ _ _ h => h) hSu.out (Or.inl ⟨by rfl, fun w' _ => yu_value ?_⟩) ?_
          rotate_left
          · (go_simp; (try exact rfl))
          try simp only [Act.put, pu1, pu2, pu3]
          refine wpAnyU_done (by kernel_rfl) (fun wE huE => ?_) _
          have ⟨hS1, hS2, hS3, hSB⟩ := hSu.out _ _ hSS huE
          clear huE hSS
          have E2 : ((i : Int) + (k : Int)).toNat = i + k := by omega
          have E3 : ((n + m : Nat) : Int) = (n : Int) + m := by omega
          have hik : (i : Int) + (k : Int) < (n : Int) + m := by omega
          have hcs := hS1.cell (i + k) (by omega)
          have hfs := hS1.frozen (i + k)
          have gM := hS1.set (i + k) r2
          have gB := hSB.setCell (p := ⟨w.heap.size, i + k, none⟩) (Nat.le_refl _) (.int .u64 (r2 : Nat))
          clear hS1 hS2 hS3 hSB
          go_wp2
          go_roundw
          case rel =>
            refine ⟨k + 1, h2, upd S' (i + k) r2, by omega, by go_num, rfl, hh2, upd_lt HSb.out hr, ?_, fun j h1 h2 => by rw [upd_other _ _ _ (by omega)]; exact Hz.out j h1 h2, gM, gB⟩
            have hu := sumL_upd S' r2 (show i + k < n + m by omega)
            have hr' := Hrc.out
            rw [bp_add] at hu
            rw [Hh2.out] at hr'
            rw [bp_succ, sumL_succ (limb y) k, ← Nat.mul_assoc (bp i)]
            exact times_step Hsum.out hu hr'
          case measure => simp [intOf] <;> omega
        · obtain rfl : k = m := by omega
          have E2 : ((i : Int) + (k : Int)).toNat = i + k := by omega
          have E3 : ((n + k : Nat) : Int) = (n : Int) + k := by omega
          have hik : (i : Int) + (k : Int) < (n : Int) + k := by omega
          have hcs := hM.cell (i + k) (by omega)
          have hfs := hM.frozen (i + k)
          have gM := hM.set (i + k) c
          have gB := hB.setCell (p := ⟨w.heap.size, i + k, none⟩) (Nat.le_refl _) (.int .u64 (c : Nat))
          clear hM hB
          go_wp2
          go_roundw
          case rel =>
            refine ⟨i + 1, upd S' (i + k) c, by omega, by go_num, upd_lt HSb.out hc, ?_, fun j h1 h2 => by rw [upd_other _ _ _ (by omega)]; exact Hz.out j (by omega) h2, gM, gB⟩
            have h2 := sumL_upd S' c (show i + k < n + k by omega)
            have h3 := Hz.out (i + k) (Nat.le_refl _) (by omega)
            have h4 := Hsum.out
            rw [bp_add, h3, Nat.zero_mul, Nat.add_zero] at h2
            rw [h2, sumL_succ (limb x) i, Nat.add_mul]
            exact h4
          case measure => simp [intOf] <;> omega
    · obtain rfl : i = n := by omega
      have he := Hsum.out
      rw [HSX.out, HSY.out] at he
      have ht := trim_row w.heap.size (i + m) (i + m) (i + m) S wo hM (Nat.le_refl _) (Nat.le_refl _) (by omega)
      have hres := am_row (c := i + m) hM (Nat.le_refl _) (Nat.le_refl _) HSb.out
      rw [he] at hres
      have HT := hid ht
      have HR := hid hres
      clear ht hres he HSb Hsum Hz hM
      go_wp2_with (go_at_call 93; (with_reducible refine HT.out.mono ?_); rintro e w' ⟨rfl, hu⟩)
      go_ret
      exact ⟨below_up hB hu, _, rfl, HR.out.up hu⟩
theorem pm_times (p q : Bool) (X Y : Nat) : pm p X * pm q Y = pm (p != q) (X * Y) := by
  cases p <;> cases q <;> simp [pm, Int.natCast_mul, Int.neg_mul, Int.mul_neg]
set_option maxHeartbeats 1000000 in
theorem sub_big {x y : Int} {va vb : Value} {w : World} (ha : Big w va x) (hb : Big w vb y) (hx : nl x.natAbs < 50000) (hy : nl y.natAbs < 50000) :
    Calls Tryz.prog 89 #[va, vb] w fun e w' => Up w w' ∧ ∃ v, e = .returned v ∧ Big w' v (x - y) := by
  obtain ⟨p, a, n, ca, rfl⟩ := ha.shape
  obtain ⟨q, b, m, cb, hq, hn⟩ := big_neg hb
  subst hq
  have hA := hid ha
  have hN := hid hn
  rw [Int.sub_eq_add_neg]
  have hy' : nl (-y).natAbs < 50000 := by rw [Int.natAbs_neg]; exact hy
  clear ha hb hn
  go_enter Tryz.func89, Tryz.ntmps89
  go_wp2
  refine wp_region_upH (S := (fun wq => Blk wq (w.heap.size + 1 + 1) 46 #[.bool false, .slice none 0 0] ∧ Blk wq w.heap.size 46 #[.bool p, .slice a n ca] ∧ Blk wq (w.heap.size + 1) 46 #[.bool q, .slice b m cb] ∧ Below w.heap.size w wq)) (req := (fun j => j != 4)) (by kernel_rfl) (fun _ _ h hu => ⟨(h.1).up hu, (h.2.1).up hu, (h.2.2.1).up hu, below_up (h.2.2.2) hu⟩) ⟨gBlk, gBlk, gBlk, gUp⟩ (fun wS hSS hSu => ?_)
  have ⟨hS1, hS2, hS3, hSB⟩ := hSS
  refine wpAnyU_take (i := 0) (d := (some 5)) (v := _) rfl rfl (by kernel_rfl) (fun _ _ _ h => h) hSu.out hSS (Or.inl ⟨by rfl, fun w' hSw => yu_value (run_ldB rfl rfl hSw.2.1 rfl)⟩) ?_
  try simp only [Act.put, pu1, pu2, pu3]
  refine wpAnyU_take (i := 1) (d := (some 6)) (v := _) rfl rfl (by kernel_rfl) (fun _ _ _ h => h) hSu.out hSS (Or.inl ⟨by rfl, fun w' hSw => yu_value (run_ldB rfl rfl hSw.2.2.1 rfl)⟩) ?_
  try simp only [Act.put, pu1, pu2, pu3]
  refine wpAnyU_take (i := 2) (d := (some 7)) (v := _) rfl rfl (by kernel_rfl) (fun _ _ _ h => h) hSu.out hSS (Or.inl ⟨by rfl, fun w' hSw => yu_call ?_ (neg_any q b m cb w')⟩) ?_
  · go_simp
  try simp only [Act.put, pu1, pu2, pu3]
  refine wpAnyU_callE (i := 3) (d := (some 8)) rfl rfl (by kernel_rfl) (by rfl) hSu.out (fun w' => by go_simp) (fun w' hw' => add_big (hA.out.up (below_up hSB hw')) (hN.out.up (below_up hSB hw')) hx hy') fun vA wA hwA hRA => ?_
  try simp only [Act.put, pu1, pu2, pu3]
  obtain ⟨b1, a1, n1, c1, rfl⟩ := hRA.shape
  refine wpAnyU_one (i := 4) rfl (by kernel_rfl) (by rfl) fun w2 hw2 => ?_
  have gK := (hS1.up hwA).up hw2
  refine wp_stB rfl rfl rfl rfl gK rfl rfl (one2 _ _ _ _) ?_
  refine ⟨fun h => by simp at h, ?_⟩
  try simp only [Act.put, pu1, pu2, pu3]
  refine wpAnyU_done (by kernel_rfl) (fun wF huE => ?_) _
  have gR := (gK.setRow #[.bool b1, .slice a1 n1 c1]).up huE
  have gA := ((hRA.up hw2).setRow (D := #[.bool b1, .slice a1 n1 c1]) gK).up huE
  have gB := below_up (below_setRow (below_up (below_up hSB hwA) hw2) (show w.heap.size ≤ w.heap.size + 1 + 1 by omega) #[.bool b1, .slice a1 n1 c1]) huE
  clear gK hRA hwA hw2 huE hS1 hS2 hS3 hSB hSS
  go_wp2
  exact bodyPost_ret (resB rfl rfl gR rfl) rfl ⟨gB, _, rfl, gA⟩
set_option maxHeartbeats 1000000 in
theorem mul_pm (p q : Bool) (X Y : Nat) (a b : Option Addr) (ca cb : Nat) (w : World) (hA : Am w (.slice a (nl X) ca) X) (hB : Am w (.slice b (nl Y) cb) Y) (hx : nl X < 50000) (hy : nl Y < 50000) :
    Calls Tryz.prog 28 #[.agg #[.bool p, .slice a (nl X) ca], .agg #[.bool q, .slice b (nl Y) cb]] w fun e w' => Up w w' ∧ ∃ v, e = .returned v ∧ Big w' v (pm p X * pm q Y) := by
  rw [pm_times]
  go_enter Tryz.func28, Tryz.ntmps28
  go_wp2
  refine wp_region_upH (S := (fun wq => Blk wq (w.heap.size + 1 + 1) 46 #[.bool false, .slice none 0 0] ∧ wq.cell? ⟨w.heap.size, 0, none⟩ = some (.bool p) ∧ wq.cell? ⟨w.heap.size + 1, 0, none⟩ = some (.bool q) ∧ wq.cell? ⟨w.heap.size, 1, none⟩ = some (.slice a (nl X) ca) ∧ wq.cell? ⟨w.heap.size + 1, 1, none⟩ = some (.slice b (nl Y) cb) ∧ Below w.heap.size w wq)) (req := (fun j => j != 11)) (by kernel_rfl) (fun _ _ h hu => ⟨(h.1).up hu, hu.cell (h.2.1), hu.cell (h.2.2.1), hu.cell (h.2.2.2.1), hu.cell (h.2.2.2.2.1), below_up (h.2.2.2.2.2) hu⟩) ⟨gBlk, (by first | assumption | (apply Blk.cell; exact gBlk; exact rfl)), (by first | assumption | (apply Blk.cell; exact gBlk; exact rfl)), (by first | assumption | (apply Blk.cell; exact gBlk; exact rfl)), (by first | assumption | (apply Blk.cell; exact gBlk; exact rfl)), gUp⟩ (fun wS hSS hSu => ?_)
  have ⟨hS1, hS2, hS3, hS4, hS5, hSB⟩ := hSS
  refine wpAnyU_pure (i := 0) (d := (some 5)) (v := ?_) rfl rfl (by kernel_rfl) (fun _ _ _ h => h) hSu.out (Or.inl ⟨by rfl, fun w' _ => yu_value ?_⟩) ?_
  rotate_left
  · (go_simp; (try exact rfl))
  try simp only [Act.put, pu1, pu2, pu3]
  refine wpAnyU_take (i := 1) (d := (some 6)) (v := ?_) rfl rfl (by kernel_rfl) (fun _ _ _ h => h) hSu.out hSS (Or.inl ⟨by rfl, fun w' hSw => yu_value ?_⟩) ?_
  rotate_left
  · ((try dsimp only at hSw); (try obtain ⟨_, _, _, _, _, _⟩ := hSw); go_simp; (try exact rfl))
  try simp only [Act.put, pu1, pu2, pu3]
  refine wpAnyU_pure (i := 2) (d := (some 7)) (v := ?_) rfl rfl (by kernel_rfl) (fun _ _ _ h => h) hSu.out (Or.inl ⟨by rfl, fun w' _ => yu_value ?_⟩) ?_
  rotate_left
  · (go_simp; (try exact rfl))
  try simp only [Act.put, pu1, pu2, pu3]
  refine wpAnyU_take (i := 3) (d := (some 8)) (v := ?_) rfl rfl (by kernel_rfl) (fun _ _ _ h => h) hSu.out hSS (Or.inl ⟨by rfl, fun w' hSw => yu_value ?_⟩) ?_
  rotate_left
  · ((try dsimp only at hSw); (try obtain ⟨_, _, _, _, _, _⟩ := hSw); go_simp; (try exact rfl))
  try simp only [Act.put, pu1, pu2, pu3]
  refine wpAnyU_pure (i := 4) (d := (some 9)) (v := ?_) rfl rfl (by kernel_rfl) (fun _ _ _ h => h) hSu.out (Or.inl ⟨by rfl, fun w' _ => yu_value ?_⟩) ?_
  rotate_left
  · (go_simp; (try exact rfl))
  try simp only [Act.put, pu1, pu2, pu3]
  refine wpAnyU_pure (i := 5) (d := (some 10)) (v := ?_) rfl rfl (by kernel_rfl) (fun _ _ _ h => h) hSu.out (Or.inl ⟨by rfl, fun w' _ => yu_value ?_⟩) ?_
  rotate_left
  · (go_simp; (try exact rfl))
  try simp only [Act.put, pu1, pu2, pu3]
  refine wpAnyU_take (i := 6) (d := (some 11)) (v := ?_) rfl rfl (by kernel_rfl) (fun _ _ _ h => h) hSu.out hSS (Or.inl ⟨by rfl, fun w' hSw => yu_value ?_⟩) ?_
  rotate_left
  · ((try dsimp only at hSw); (try obtain ⟨_, _, _, _, _, _⟩ := hSw); go_simp; (try exact rfl))
  try simp only [Act.put, pu1, pu2, pu3]
  refine wpAnyU_pure (i := 7) (d := (some 12)) (v := ?_) rfl rfl (by kernel_rfl) (fun _ _ _ h => h) hSu.out (Or.inl ⟨by rfl, fun w' _ => yu_value ?_⟩) ?_
  rotate_left
  · (go_simp; (try exact rfl))
  try simp only [Act.put, pu1, pu2, pu3]
  refine wpAnyU_take (i := 8) (d := (some 13)) (v := ?_) rfl rfl (by kernel_rfl) (fun _ _ _ h => h) hSu.out hSS (Or.inl ⟨by rfl, fun w' hSw => yu_value ?_⟩) ?_
  rotate_left
  · ((try dsimp only at hSw); (try obtain ⟨_, _, _, _, _, _⟩ := hSw); go_simp; (try exact rfl))
  try simp only [Act.put, pu1, pu2, pu3]
  refine wpAnyU_callE (i := 9) (d := (some 14)) rfl rfl (by kernel_rfl) (by rfl) hSu.out (fun w' => by go_simp) (fun w' hw' => times_am (hA.up (below_up hSB hw')) (hB.up (below_up hSB hw')) (by omega) (by omega)) fun vP wP hwP hRP => ?_
  try simp only [Act.put, pu1, pu2, pu3]
  obtain ⟨a1, c1, rfl⟩ := hRP.shape
  refine wpAnyU_callE (i := 10) (d := (some 15)) rfl rfl (by kernel_rfl) (by rfl) hSu.out (fun w' => by go_simp) (fun w' hw' => callE_of (made_any (!(p == q)) a1 (nl (X * Y)) c1 w')) fun vM wM hwM hRM => ?_
  try simp only [Act.put, pu1, pu2, pu3]
  subst hRM
  refine wpAnyU_one (i := 11) rfl (by kernel_rfl) (by rfl) fun w2 hw2 => ?_
  have gK := ((hS1.up hwP).up hwM).up hw2
  refine wp_stB rfl rfl rfl rfl gK rfl rfl (one2 _ _ _ _) ?_
  refine ⟨fun h => by simp at h, ?_⟩
  try simp only [Act.put, pu1, pu2, pu3]
  refine wpAnyU_done (by kernel_rfl) (fun wF huE => ?_) _
  have gR := (gK.setRow #[.bool ((!(p == q)) && decide (0 < nl (X * Y))), .slice a1 (nl (X * Y)) c1]).up huE
  have gA := (((hRP.up hwM).up hw2).setRow (D := #[.bool ((!(p == q)) && decide (0 < nl (X * Y))), .slice a1 (nl (X * Y)) c1]) gK).up huE
  have gB := below_up (below_setRow (below_up (below_up (below_up hSB hwP) hwM) hw2) (show w.heap.size ≤ w.heap.size + 1 + 1 by omega) #[.bool ((!(p == q)) && decide (0 < nl (X * Y))), .slice a1 (nl (X * Y)) c1]) huE
  have gBig := big_made (!(p == q)) gA
  clear gK hRP hwP hwM hw2 huE hS1 hS2 hS3 hS4 hS5 hSB hSS gA
  go_wp2
  exact bodyPost_ret (resB rfl rfl gR rfl) rfl ⟨gB, _, rfl, gBig⟩
theorem mul_big {x y : Int} {va vb : Value} {w : World} (ha : Big w va x) (hb : Big w vb y) (hx : nl x.natAbs < 50000) (hy : nl y.natAbs < 50000) :
    Calls Tryz.prog 28 #[va, vb] w fun e w' => Up w w' ∧ ∃ v, e = .returned v ∧ Big w' v (x * y) := by
  obtain ⟨a, ca, rfl, hA⟩ := ha
  obtain ⟨b, cb, rfl, hB⟩ := hb
  have h := mul_pm (decide (x < 0)) (decide (y < 0)) x.natAbs y.natAbs a b ca cb w hA hB hx hy
  rw [← pm_int, ← pm_int] at h
  exact h
theorem row_one {w : World} {b X : Nat} (h : b = w.heap.size) : Row (w.alloc (.cells #[.int .u64 (X : Nat)] 31)) b 31 1 (fun _ => X) :=
  row_new _ 1 _ _ h (by unfold cells; rfl)
theorem am_one {w : World} {b X : Nat} (hX : X < 18446744073709551616) (h0 : 0 < X) (hR : Row w b 31 1 (fun _ => X)) : Am w (.slice (some ⟨b, 0, none⟩) 1 1) X ∧ nl X = 1 := by
  have h := am_row (n := 1) (c := 1) hR (Nat.le_refl _) (Nat.le_refl _) (fun _ _ => hX)
  have e1 : sumL (fun _ => X) 1 = X := by rw [sumL_succ, sumL_zero, bp_zero]; omega
  have e2 : lenL (fun _ => X) 1 = 1 := by rw [lenL_succ, if_neg (by omega)]
  have e3 := nl_sum (S := fun _ => X) (n := 1) (fun _ _ => hX)
  rw [e1, e2] at h e3
  exact ⟨h, e3⟩
theorem of_big (v : Int) (h1 : -9223372036854775808 ≤ v) (h2 : v < 9223372036854775808) (w : World) :
    Calls Tryz.prog 46 #[.int .i64 v] w fun e w' => Up w w' ∧ ∃ u, e = .returned u ∧ Big w' u v := by
  obtain ⟨X, hX⟩ : ∃ X, X = v.natAbs := ⟨_, rfl⟩
  by_cases h0 : v < 0
  · have d0 : decide (v < 0) = true := decide_eq_true h0
    have e1 : IntKind.i64.wrap (v + 1) = v + 1 := IntWalk.i64_in _ (by omega)
    have e2 : IntKind.i64.wrap (-(v + 1)) = -(v + 1) := IntWalk.i64_in _ (by omega)
    obtain ⟨Y, hY⟩ : ∃ Y : Nat, (Y : Int) = -(v + 1) := ⟨(-(v + 1)).toNat, by omega⟩
    have e3 : IntKind.u64.wrap (-(v + 1)) = (Y : Nat) := by rw [IntKind.wrap_u64]; omega
    have e4 : IntKind.u64.wrap ((Y : Int) + 1) = (X : Nat) := by rw [IntKind.wrap_u64]; omega
    have HM := hid (fun a n c w => made_any true a n c w)
    have HX := hid hX
    have HX64 := hid (show X < 18446744073709551616 ∧ 0 < X by omega)
    clear hX hY
    go_enter Tryz.func46, Tryz.ntmps46
    go_wp2_with (first | ((with_reducible apply stB_P); exact rfl; exact rfl; exact gBlk; exact rfl; exact rfl; exact one2 _ _ _ _) | (go_at_call 68; (with_reducible refine (HM.out _ _ _ _).mono ?_); rintro e wM ⟨rfl, hu⟩))
    have hR : Row ((w.alloc (Obj.cells #[Value.bool false, Value.slice none 0 0] 46)).alloc (Obj.cells #[Value.int IntKind.u64 (X : Nat)] 31)) (w.heap.size + 1) 31 1 (fun _ => X) := row_one (by simp)
    have hA := am_one HX64.out.1 HX64.out.2 (hR.up hu)
    have hB := big_made true (hA.2.symm ▸ hA.1)
    have hv : pm true X = v := by have := HX.out; simp only [pm, if_true]; omega
    rw [hv, hA.2, show (true && decide (0 < 1)) = true from rfl] at hB
    have hK : Blk wM w.heap.size 46 #[.bool false, .slice none 0 0] := gBlk
    exact bodyPost_ret (resB rfl rfl (hK.setRow _) rfl) rfl ⟨gUp, _, rfl, hB.setRow hK⟩
  · have d0 : decide (v < 0) = false := decide_eq_false h0
    have e3 : IntKind.u64.wrap v = (X : Nat) := by rw [IntKind.wrap_u64]; omega
    have HM := hid (fun a n c w => made_any false a n c w)
    have HX := hid hX
    have HX64 := hid (show X < 18446744073709551616 by omega)
    clear hX
    have eS : sumL (fun _ => X) 1 = X := by rw [sumL_succ, sumL_zero, bp_zero]; omega
    have eL : lenL (fun _ => X) 1 = nl X := by
      have e3 := nl_sum (S := fun _ => X) (n := 1) (fun _ _ => HX64.out)
      rw [eS] at e3
      exact e3.symm
    have hR : Row ((w.alloc (Obj.cells #[Value.bool false, Value.slice none 0 0] 46)).alloc (Obj.cells #[Value.int IntKind.u64 (X : Nat)] 31)) (w.heap.size + 1) 31 1 (fun _ => X) := row_one (by simp)
    have hT := trim_row (w.heap.size + 1) 1 1 1 (fun _ => X) _ hR (Nat.le_refl _) (Nat.le_refl _) (by decide)
    have hA := am_row (c := 1) hR (Nat.le_refl _) (Nat.le_refl _) (fun _ _ => HX64.out)
    rw [eL] at hT hA
    rw [eS] at hA
    have HT := hid hT
    have HA := hid hA
    clear hT hA hR eL eS
    go_enter Tryz.func46, Tryz.ntmps46
    go_wp2_with (first | ((with_reducible apply stB_P); exact rfl; exact rfl; exact gBlk; exact rfl; exact rfl; exact one2 _ _ _ _) | (go_at_call 68; (with_reducible refine (HM.out _ _ _ _).mono ?_); rintro e wM ⟨rfl, hu⟩) | (go_at_call 93; (with_reducible refine HT.out.mono ?_); rintro e wT ⟨rfl, hv⟩))
    have hB := big_made false ((HA.out.up hv).up hu)
    have hv' : pm false X = v := by have := HX.out; simp only [pm, Bool.false_eq_true, if_false]; omega
    rw [hv', Bool.false_and] at hB
    have hK : Blk wM w.heap.size 46 #[.bool false, .slice none 0 0] := gBlk
    exact bodyPost_ret (resB rfl rfl (hK.setRow _) rfl) rfl ⟨gUp, _, rfl, hB.setRow hK⟩
theorem sgn_cmp {x y : Int} : sgn (x - y) = cmpZ x y := by
  unfold sgn cmpZ
  split <;> split <;> (try split) <;> (try split) <;> first | rfl | omega
theorem cmp_big {x y : Int} {va vb : Value} {w : World} (ha : Big w va x) (hb : Big w vb y) (hx : nl x.natAbs < 50000) (hy : nl y.natAbs < 50000) :
    Calls Tryz.prog 48 #[va, vb] w fun e w' => e = .returned (.int .i64 (cmpZ x y)) ∧ Up w w' := by
  obtain ⟨p, a, n, ca, rfl⟩ := ha.shape
  obtain ⟨q, b, m, cb, rfl⟩ := hb.shape
  have hA := hid ha
  have hB := hid hb
  clear ha hb
  go_enter Tryz.func48, Tryz.ntmps48
  go_wp2_with (first | ((with_reducible apply ldB_P); exact rfl; exact rfl; exact gBlk; exact rfl) | (go_at_call 89; (with_reducible refine (sub_big (hA.out.up gUp) (hB.out.up gUp) hx hy).mono ?_); rintro e wS ⟨huS, v, rfl, hv⟩; obtain ⟨a1, c1, rfl, -⟩ := hv) | (go_at_call 49; (with_reducible refine (bsign_any _ _ _ _ _).mono ?_); rintro e wT ⟨rfl, huT⟩))
  go_ret
  exact ⟨ret_int (by rw [sgn_big, sgn_cmp]), gUp⟩
theorem nl_one {X : Nat} (h : nl X = 1) : X < 18446744073709551616 ∧ 0 < X ∧ limb X 0 = X := by
  have h1 := lt_bp_nl X
  rw [h, bp_succ, bp_zero] at h1
  have h2 := nl_pos_iff.1 (show 0 < nl X by omega)
  refine ⟨by omega, h2, ?_⟩
  rw [limb0, Nat.mod_eq_of_lt (by omega)]
theorem nl_two {X : Nat} (h : 1 < nl X) : 18446744073709551616 ≤ X := by
  have h1 := bp_le_nl (show 0 < nl X by omega)
  have h2 := bp_mono (show 1 ≤ nl X - 1 by omega)
  rw [bp_succ, bp_zero] at h2
  omega
set_option maxHeartbeats 1000000 in
theorem int64_big {z : Int} {v : Value} {w : World} (h : Big w v z) (hz : nl z.natAbs < 50000) :
    Calls Tryz.prog 78 #[v] w fun e w' => e = .returned (i64V z) ∧ Up w w' := by
  obtain ⟨a, c, rfl, hA⟩ := h
  obtain ⟨a', c', he, hc, hcell⟩ := hA.open
  obtain ⟨rfl, -, rfl⟩ : a = a' ∧ True ∧ c = c' := by simpa using he
  clear he hA
  have hpm := pm_int z
  obtain ⟨p, hp⟩ : ∃ p, decide (z < 0) = p := ⟨_, rfl⟩
  obtain ⟨X, hX⟩ : ∃ X, z.natAbs = X := ⟨_, rfl⟩
  rw [hp, hX] at hpm
  rw [hp, hX]
  rw [hX] at hc hcell hz
  rw [hpm]
  clear hpm hp hX
  rcases Nat.lt_trichotomy (nl X) 1 with hn | hn | hn
  · have h0 : nl X = 0 := by omega
    have hX0 : X = 0 := by
      rcases Nat.eq_zero_or_pos X with h | h
      · exact h
      · have := nl_pos h; omega
    have e : i64V (pm p X) = .tuple #[.int .i64 0, .bool true] := by
      subst hX0
      rw [i64V_yes (by cases p <;> simp [pm])]
      cases p <;> simp [pm]
    rw [e, h0]
    clear hcell e
    go_enter Tryz.func78, Tryz.ntmps78
    go_wp2
    go_ret2
    exact ⟨rfl, gUp⟩
  · obtain ⟨h64, hpos, hl⟩ := nl_one hn
    obtain ⟨b, rfl, hb, hcb⟩ := hcell 0 (by omega)
    rw [hl] at hcb
    rw [hn] at hc ⊢
    clear hcell
    have hcW : ((w.alloc (Obj.cells #[Value.bool p, Value.slice (some { block := b, off := 0 }) 1 c] 46))).cell? ⟨b, 0, none⟩ = some (.int .u64 (X : Nat)) := hcb _ gUp
    clear hcb hl hn
    by_cases h1 : 9223372036854775808 < X
    · have e : i64V (pm p X) = .tuple #[.int .i64 0, .bool false] := i64V_no (by cases p <;> simp only [pm, Bool.false_eq_true, if_false, if_true] <;> omega)
      rw [e]
      have d1 : decide ((9223372036854775808 : Int) < X) = true := decide_eq_true (by omega)
      clear e
      go_enter Tryz.func78, Tryz.ntmps78
      go_wp2
      go_ret2
      exact ⟨rfl, gUp⟩
    · have d1 : decide ((9223372036854775808 : Int) < X) = false := decide_eq_false (by omega)
      cases p with
      | true =>
        have e : i64V (pm true X) = .tuple #[.int .i64 (-(X : Int)), .bool true] := i64V_yes (by simp only [pm, if_true]; omega)
        rw [e]
        obtain ⟨Y, hY⟩ : ∃ Y : Nat, Y = X - 1 := ⟨_, rfl⟩
        obtain ⟨Z, hZ⟩ : ∃ Z : Int, Z = -(X : Int) := ⟨_, rfl⟩
        have e1 : IntKind.u64.wrap ((X : Int) - 1) = (Y : Nat) := by rw [IntKind.wrap_u64]; omega
        have e2 : IntKind.i64.wrap (Y : Int) = (Y : Nat) := IntWalk.i64_in _ (by omega)
        have e3 : IntKind.i64.wrap (-(Y : Int)) = -(Y : Int) := IntWalk.i64_in _ (by omega)
        have e4 : IntKind.i64.wrap (-(Y : Int) - 1) = Z := by rw [IntKind.wrap_i64]; omega
        rw [← hZ]
        have hY1 : Y < 9223372036854775808 := by omega
        clear e hY hZ
        go_enter Tryz.func78, Tryz.ntmps78
        go_wp2
        go_ret2
        exact ⟨rfl, gUp⟩
      | false =>
        by_cases h2 : X = 9223372036854775808
        · subst h2
          have e : i64V (pm false 9223372036854775808) = .tuple #[.int .i64 0, .bool false] := i64V_no (by simp [pm])
          rw [e]
          clear e
          go_enter Tryz.func78, Tryz.ntmps78
          go_wp2
          go_ret2
          exact ⟨rfl, gUp⟩
        · have e : i64V (pm false X) = .tuple #[.int .i64 (X : Nat), .bool true] := i64V_yes (by simp only [pm, Bool.false_eq_true, if_false]; omega)
          rw [e]
          have d2 : ((X : Int) == 9223372036854775808) = false := by simp; omega
          have e2 : IntKind.i64.wrap (X : Int) = (X : Nat) := IntWalk.i64_in _ (by omega)
          clear e
          go_enter Tryz.func78, Tryz.ntmps78
          go_wp2
          go_ret2
          exact ⟨rfl, gUp⟩
  · have h2 := nl_two hn
    have e : i64V (pm p X) = .tuple #[.int .i64 0, .bool false] := i64V_no (by cases p <;> simp only [pm, Bool.false_eq_true, if_false, if_true] <;> omega)
    rw [e]
    clear hcell e
    generalize nl X = n at *
    have d1 : decide ((1 : Int) < (n : Nat)) = true := decide_eq_true (by omega)
    have d0 : ((n : Int) == 0) = false := by simp; omega
    go_enter Tryz.func78, Tryz.ntmps78
    go_wp2
    go_ret2
    exact ⟨rfl, gUp⟩
theorem big_set {w : World} {v : Value} {z : Int} {g : Nat} {C D : Array Value} (hg : Blk w g 46 C) (h : Big w v z) : Big (w.setRow g D) v z := h.setRow hg
theorem big_alloc {w : World} {v : Value} {z : Int} {o : Obj} (h : Big w v z) : Big (w.alloc o) v z := h.up (Up.alloc _ _)
theorem big_up {w w' : World} {v : Value} {z : Int} (hu : Up w w') (h : Big w v z) : Big w' v z := h.up hu
theorem big_amount {w : World} {b : Bool} {a : Option Addr} {n c : Nat} {z : Int} (h : Big w (.agg #[.bool b, .slice a n c]) z) : Big w (.agg #[.bool false, .slice a n c]) ((z.natAbs : Nat) : Int) := by
  obtain ⟨a', c', h1, h2⟩ := h
  obtain ⟨-, rfl, rfl, rfl⟩ : b = decide (z < 0) ∧ a = a' ∧ n = nl z.natAbs ∧ c = c' := by simpa using h1
  exact ⟨_, _, by rw [decide_eq_false (by omega)]; rfl, h2⟩
theorem amount_any (b : Bool) (a : Option Addr) (n c : Nat) (w : World) :
    Calls Tryz.prog 88 #[.agg #[.bool b, .slice a n c]] w fun e w' => e = .returned (.agg #[.bool false, .slice a n c]) ∧ Up w w' := by
  have hm := fun w => made_any false a n c w
  rw [Bool.false_and] at hm
  have HM := hid hm
  clear hm
  go_enter Tryz.func88, Tryz.ntmps88
  go_wp2_with (first | ((with_reducible apply stB_P); exact rfl; exact rfl; exact gBlk; exact rfl; exact rfl; exact one2 _ _ _ _) | (go_at_call 68; refine (HM.out _).mono ?_; rintro e w' ⟨rfl, hu⟩))
  exact bodyPost_ret (resB rfl rfl gBlk rfl) rfl ⟨rfl, gUp⟩
theorem fits_gen {z M : Int} {va : Value} {w : World} (ha : Big w va z) (hz : nl z.natAbs < 50000) (h1 : -9223372036854775808 ≤ M) (h2 : M < 9223372036854775808) (hm : nl M.natAbs < 50000) :
    Calls Tryz.prog 77 #[va, .int .i64 M] w fun e w' => e = .returned (.bool (decide (cmpZ ((z.natAbs : Nat) : Int) M ≤ 0))) ∧ Up w w' := by
  obtain ⟨p, a, n, c, rfl⟩ := ha.shape
  have hA := hid (big_amount ha)
  have HO := hid (fun w => of_big M h1 h2 w)
  have HN : Hid (nl ((z.natAbs : Nat) : Int).natAbs < 50000) := hid hz
  have HM := hid hm
  obtain ⟨o, ho⟩ : ∃ o, decide (cmpZ ((z.natAbs : Nat) : Int) M ≤ 0) = o := ⟨_, rfl⟩
  rw [ho]
  clear ha h1 h2 hz hm
  go_enter Tryz.func77, Tryz.ntmps77
  go_wp2_with (first | ((with_reducible apply ldB_P); exact rfl; exact rfl; exact gBlk; exact rfl) | (go_at_call 88; (with_reducible refine (amount_any _ _ _ _ _).mono ?_); rintro e wA ⟨rfl, huA⟩) | (go_at_call 46; (with_reducible refine (HO.out _).mono ?_); rintro e wO ⟨huO, u, rfl, hBO⟩; obtain ⟨qo, ao, no, co, rfl⟩ := hBO.shape) | (go_at_call 48; (with_reducible refine (cmp_big (hA.out.up gUp) hBO HN.out HM.out).mono ?_); rintro e wC ⟨rfl, huC⟩))
  go_ret
  exact ⟨rfl, gUp⟩
theorem nl_bp {z : Int} {k : Nat} (hk : k < 50000) (h : z.natAbs < bp k) : nl z.natAbs < 50000 := by have := nl_le h; omega
theorem i64_bp {z : Int} (h : I64 z) : z.natAbs < bp 1 := by unfold I64 at h; rw [bp_succ, bp_zero]; omega
theorem rfits_any {z : Int} {va : Value} {w : World} (ha : Big w va z) (hz : nl z.natAbs < 50000) :
    Calls Tryz.prog 77 #[va, .int .i64 1073741824] w fun e w' => e = .returned (.bool (fit z)) ∧ Up w w' := by
  have h := fits_gen (M := 1073741824) ha hz (by omega) (by omega) (nl_bp (k := 1) (by omega) (by rw [bp_succ, bp_zero]; decide))
  have he : decide (cmpZ ((z.natAbs : Nat) : Int) 1073741824 ≤ 0) = fit z := by
    unfold fit
    rw [decide_eq_decide]
    unfold cmpZ
    split
    · omega
    · split <;> omega
  rw [he] at h
  exact h
theorem rat_ent2 {v : Value} {n : Nat} {l : List Int} {i j : Nat} {w : World} (h : Sm w v n l) (n8 : n ≤ 8) (hln : l.length = triN n) (hij : i ≤ j) (hj : j < n) :
    Calls Tryz.prog 27 #[v, .int .i64 (i : Nat), .int .i64 (j : Nat)] w fun r w' => r = .returned (.int .i64 (zth l (pos n i j))) ∧ Up w w' := by
  have hkl : pos n i j < l.length := by rw [hln]; exact pos_lt hij hj
  have HX := hid (fun w => (pos_idx hij hj) ▸ rat_any (n : Int) (i : Int) (j : Int) (by omega) (by omega) (by omega) (by omega) (by omega) w)
  obtain ⟨k, hk⟩ : ∃ k, pos n i j = k := ⟨_, rfl⟩
  rw [hk] at HX hkl ⊢
  obtain ⟨s, rfl, hV, hN, hl, hlen⟩ := h
  obtain ⟨p, cap, rfl, hcap, hc⟩ := hV
  obtain ⟨ad, rfl, hcell⟩ := hc k hkl
  have hcell' := (Up.alloc w (.cells #[.int .i64 (n : Int), .slice (some ad) l.length cap] 24)).cellEq hcell
  clear hc hl hk hcell hln
  go_enter Tryz.func27, Tryz.ntmps27
  go_wp2_with fail
  go_quiet ((go_at_call 67; exact Calls.quiet_of_same (HX.out _)))
  go_wp2_with fail
  go_ret
  exact ⟨rfl, up_alloc_drewN _ _ _⟩
def diC (N : Int) (l : List Int) (x : Int) : Int := if rt N l then (if (diL N.toNat l x).all fit then 0 else 21) else 23
def diR (N : Int) (l : List Int) (x : Int) : List Int := if diC N l x = 0 then diL N.toNat l x else []
def diN (N : Int) (l : List Int) (x : Int) : Int := if diC N l x = 0 then N else 0
theorem diL_len (n : Nat) (l : List Int) (x : Int) : (diL n l x).length = l.length := mk_len _ _
theorem diL_at {n : Nat} {l : List Int} (x : Int) (hn : n ≤ 8) (hl : l.length = triN n) {i j : Nat} (hij : i ≤ j) (hj : j < n) : zth (diL n l x) (pos n i j) = if i = j then zth l (pos n i j) + x else zth l (pos n i j) := by
  unfold diL
  rw [mk_at (by rw [hl]; exact pos_lt hij hj), prs_at hn hij hj]
theorem diL_row {n : Nat} {l : List Int} (x : Int) (hn : n ≤ 8) (hl : l.length = triN n) {i q : Nat} (hi : i < n) (h1 : pos n i i + 1 ≤ q) (h2 : q < pos n (i + 1) (i + 1)) : zth (diL n l x) q = zth l q := by
  have hr := pos_row hi
  obtain ⟨j, rfl, hj1, hj2⟩ : ∃ j, q = pos n i j ∧ i < j ∧ j < n := by
    refine ⟨i + (q - pos n i i), ?_, by omega, ?_⟩ <;> (unfold pos at *; omega)
  rw [diL_at x hn hl (by omega) hj2, if_neg (by omega)]
end Go.Proofs.YtjoenldfjggciaaGreatDoor
