/-
  What the claim's law is built of: Sy11, We1, Sa2, Bl1, Sy12, Sy13, Sy14, Sy15, Sy25, Sa3, RefJ.
-/
import Derived.Test.YtdcpoamjmoceiaaGreatDoorPd
import Derived.Deep.MidRow
import Derived.Laws.CopyRow
import Derived.Great.BuildSlice
import Derived.OwnWalk
/-
  Symmetric matrices by the reference: a number on the diagonal more.
-/
namespace Go.Proofs.YtdcpoamjmoceiaaGreatDoor
open Go Go.RowKit
set_option maxRecDepth 100000
set_option maxRecDepth 100000

theorem big_set {w : World} {v : Value} {z : Int} {g : Nat} {C D : Array Value} (hg : Blk w g 61 C) (h : Big w v z) : Big (w.setRow g D) v z := h.setRow hg
theorem big_alloc {w : World} {v : Value} {z : Int} {o : Obj} (h : Big w v z) : Big (w.alloc o) v z := h.up (Up.alloc _ _)
theorem big_up {w w' : World} {v : Value} {z : Int} (hu : Up w w') (h : Big w v z) : Big w' v z := h.up hu
theorem big_amount {w : World} {b : Bool} {a : Option Addr} {n c : Nat} {z : Int} (h : Big w (.agg #[.bool b, .slice a n c]) z) : Big w (.agg #[.bool false, .slice a n c]) ((z.natAbs : Nat) : Int) := by
  obtain ⟨a', c', h1, h2⟩ := h
  obtain ⟨-, rfl, rfl, rfl⟩ : b = decide (z < 0) ∧ a = a' ∧ n = nl z.natAbs ∧ c = c' := by simpa using h1
  exact ⟨_, _, by rw [decide_eq_false (by omega)]; rfl, h2⟩
theorem amount_any (b : Bool) (a : Option Addr) (n c : Nat) (w : World) :
    Calls Tryz.prog 84 #[.agg #[.bool b, .slice a n c]] w fun e w' => e = .returned (.agg #[.bool false, .slice a n c]) ∧ Up w w' := by
  have hm := fun w => made_any false a n c w
  rw [Bool.false_and] at hm
  have HM := hid hm
  clear hm
  go_enter Tryz.func84, Tryz.ntmps84
  go_wp2_with (first | ((with_reducible apply stB_P); exact rfl; exact rfl; (focus (repeat (first | assumption | ((with_reducible apply blk_new); (focus (first | rfl | (simp; done)))) | (with_reducible apply blk_alloc) | (with_reducible apply blk_drew) | (with_reducible apply blk_drewN) | ((with_reducible apply blk_up); assumption) | (with_reducible apply blk_same) | ((with_reducible apply blk_else); (focus (first | (simp; done) | (simp; omega) | omega)))))); exact rfl; exact rfl; exact one2 _ _ _ _) | (go_at_call 71; refine (HM.out _).mono ?_; rintro e w' ⟨rfl, hu⟩))
  exact bodyPost_ret (resB rfl rfl (by (repeat (first | assumption | ((with_reducible apply blk_new); (focus (first | rfl | (simp; done)))) | (with_reducible apply blk_alloc) | (with_reducible apply blk_drew) | (with_reducible apply blk_drewN) | ((with_reducible apply blk_up); assumption) | (with_reducible apply blk_same) | ((with_reducible apply blk_else); (focus (first | (simp; done) | (simp; omega) | omega)))))) rfl) rfl ⟨rfl, (by repeat (first | assumption | (with_reducible apply Up.of) | (with_reducible exact Below.refl _ _) | (with_reducible exact Up.refl _) | ((with_reducible apply bl_setRow); (focus (first | exact Nat.le_refl _ | (simp; done) | (simp; omega) | omega))) | (with_reducible apply below_drewN) | (with_reducible apply Below.drew) | ((with_reducible apply bl_alloc); (focus (first | exact Nat.le_refl _ | (simp; done) | (simp; omega) | omega))) | ((with_reducible apply bl_setCell); (focus (first | exact Nat.le_refl _ | (simp; done) | (simp; omega) | omega))) | ((with_reducible apply up_tr); assumption)))⟩

theorem fits_gen {z M : Int} {va : Value} {w : World} (ha : Big w va z) (hz : nl z.natAbs < 50000) (h1 : -9223372036854775808 ≤ M) (h2 : M < 9223372036854775808) (hm : nl M.natAbs < 50000) :
    Calls Tryz.prog 53 #[va, .int .i64 M] w fun e w' => e = .returned (.bool (decide (cmpZ ((z.natAbs : Nat) : Int) M ≤ 0))) ∧ Up w w' := by
  obtain ⟨p, a, n, c, rfl⟩ := ha.shape
  have hA := hid (big_amount ha)
  have HO := hid (fun w => of_big M h1 h2 w)
  have HN : Hid (nl ((z.natAbs : Nat) : Int).natAbs < 50000) := hid hz
  have HM := hid hm
  obtain ⟨o, ho⟩ : ∃ o, decide (cmpZ ((z.natAbs : Nat) : Int) M ≤ 0) = o := ⟨_, rfl⟩
  rw [ho]
  clear ha h1 h2 hz hm
  go_enter Tryz.func53, Tryz.ntmps53
  go_wp2_with (first | ((with_reducible apply ldB_P); exact rfl; exact rfl; (focus (repeat (first | assumption | ((with_reducible apply blk_new); (focus (first | rfl | (simp; done)))) | (with_reducible apply blk_alloc) | (with_reducible apply blk_drew) | (with_reducible apply blk_drewN) | ((with_reducible apply blk_up); assumption) | (with_reducible apply blk_same) | ((with_reducible apply blk_else); (focus (first | (simp; done) | (simp; omega) | omega)))))); exact rfl) | (go_at_call 84; (with_reducible refine (amount_any _ _ _ _ _).mono ?_); rintro e wA ⟨rfl, huA⟩) | (go_at_call 52; (with_reducible refine (HO.out _).mono ?_); rintro e wO ⟨huO, u, rfl, hBO⟩; obtain ⟨qo, ao, no, co, rfl⟩ := hBO.shape) | (go_at_call 83; (with_reducible refine (cmp_big (hA.out.up (by repeat (first | assumption | (with_reducible apply Up.of) | (with_reducible exact Below.refl _ _) | (with_reducible exact Up.refl _) | ((with_reducible apply bl_setRow); (focus (first | exact Nat.le_refl _ | (simp; done) | (simp; omega) | omega))) | (with_reducible apply below_drewN) | (with_reducible apply Below.drew) | ((with_reducible apply bl_alloc); (focus (first | exact Nat.le_refl _ | (simp; done) | (simp; omega) | omega))) | ((with_reducible apply bl_setCell); (focus (first | exact Nat.le_refl _ | (simp; done) | (simp; omega) | omega))) | ((with_reducible apply up_tr); assumption)))) hBO HN.out HM.out).mono ?_); rintro e wC ⟨rfl, huC⟩))
  go_ret
  exact ⟨rfl, (by repeat (first | assumption | (with_reducible apply Up.of) | (with_reducible exact Below.refl _ _) | (with_reducible exact Up.refl _) | ((with_reducible apply bl_setRow); (focus (first | exact Nat.le_refl _ | (simp; done) | (simp; omega) | omega))) | (with_reducible apply below_drewN) | (with_reducible apply Below.drew) | ((with_reducible apply bl_alloc); (focus (first | exact Nat.le_refl _ | (simp; done) | (simp; omega) | omega))) | ((with_reducible apply bl_setCell); (focus (first | exact Nat.le_refl _ | (simp; done) | (simp; omega) | omega))) | ((with_reducible apply up_tr); assumption)))⟩
theorem nl_bp {z : Int} {k : Nat} (hk : k < 50000) (h : z.natAbs < bp k) : nl z.natAbs < 50000 := by have := nl_le h; omega
theorem i64_bp {z : Int} (h : I64 z) : z.natAbs < bp 1 := by unfold I64 at h; rw [bp_succ, bp_zero]; omega
theorem rfits_any {z : Int} {va : Value} {w : World} (ha : Big w va z) (hz : nl z.natAbs < 50000) :
    Calls Tryz.prog 53 #[va, .int .i64 1073741824] w fun e w' => e = .returned (.bool (fit z)) ∧ Up w w' := by
  have h := fits_gen (M := 1073741824) ha hz (by omega) (by omega) (nl_bp (k := 1) (by omega) (by rw [bp_succ, bp_zero]; decide))
  have he : decide (cmpZ ((z.natAbs : Nat) : Int) 1073741824 ≤ 0) = fit z := by
    unfold fit
    rw [decide_eq_decide]
    unfold cmpZ
    split
    · omega
    · split <;> omega
  rw [he] at h
  exact h
theorem rat_ent2 {v : Value} {n : Nat} {l : List Int} {i j : Nat} {w : World} (h : Sm w v n l) (n8 : n ≤ 8) (hln : l.length = triN n) (hij : i ≤ j) (hj : j < n) :
    Calls Tryz.prog 35 #[v, .int .i64 (i : Nat), .int .i64 (j : Nat)] w fun r w' => r = .returned (.int .i64 (zth l (pos n i j))) ∧ Up w w' := by
  have hkl : pos n i j < l.length := by rw [hln]; exact pos_lt hij hj
  have HX := hid (fun w => (pos_idx hij hj) ▸ rat_any (n : Int) (i : Int) (j : Int) (by omega) (by omega) (by omega) (by omega) (by omega) w)
  obtain ⟨k, hk⟩ : ∃ k, pos n i j = k := ⟨_, rfl⟩
  rw [hk] at HX hkl ⊢
  obtain ⟨s, rfl, hV, hN, hl, hlen⟩ := h
  obtain ⟨p, cap, rfl, hcap, hc⟩ := hV
  obtain ⟨ad, rfl, hcell⟩ := hc k hkl
  have hcell' := (Up.alloc w (.cells #[.int .i64 (n : Int), .slice (some ad) l.length cap] 24)).cellEq hcell
  clear hc hl hk hcell hln
  go_enter Tryz.func35, Tryz.ntmps35
  go_wp2_with fail
  go_quiet ((go_at_call 55; exact Calls.quiet_of_same (HX.out _)))
  go_wp2_with fail
  go_ret
  exact ⟨rfl, up_alloc_drewN _ _ _⟩
def diC (N : Int) (l : List Int) (x : Int) : Int := if rt N l then (if (diL N.toNat l x).all fit then 0 else 21) else 23
def diR (N : Int) (l : List Int) (x : Int) : List Int := if diC N l x = 0 then diL N.toNat l x else []
def diN (N : Int) (l : List Int) (x : Int) : Int := if diC N l x = 0 then N else 0
theorem diL_len (n : Nat) (l : List Int) (x : Int) : (diL n l x).length = l.length := mk_len _ _
theorem diL_at {n : Nat} {l : List Int} (x : Int) (hn : n ≤ 8) (hl : l.length = triN n) {i j : Nat} (hij : i ≤ j) (hj : j < n) : zth (diL n l x) (pos n i j) = if i = j then zth l (pos n i j) + x else zth l (pos n i j) := by
  unfold diL
  rw [mk_at (by rw [hl]; exact pos_lt hij hj), prs_at hn hij hj]
theorem diL_row {n : Nat} {l : List Int} (x : Int) (hn : n ≤ 8) (hl : l.length = triN n) {i q : Nat} (hi : i < n) (h1 : pos n i i + 1 ≤ q) (h2 : q < pos n (i + 1) (i + 1)) : zth (diL n l x) q = zth l q := by
  have hr := pos_row hi
  obtain ⟨j, rfl, hj1, hj2⟩ : ∃ j, q = pos n i j ∧ i < j ∧ j < n := by
    refine ⟨i + (q - pos n i i), ?_, by omega, ?_⟩ <;> (unfold pos at *; omega)
  rw [diL_at x hn hl (by omega) hj2, if_neg (by omega)]
end Go.Proofs.YtdcpoamjmoceiaaGreatDoor
/-
  Rows of wide numbers in memory, and rows of such rows.
-/
namespace Go.Proofs.YtdcpoamjmoceiaaGreatDoor
open Go Go.RowKit
set_option maxRecDepth 100000
set_option maxRecDepth 100000

theorem undWs : Tryz.prog.underlying 41 = some (.slice 54) := by kernel_rfl
theorem infoWs : (Tryz.prog.info? 54).map (fun i => (i.zero.map (·.cells.size), i.size, i.bytes)) = some (some 16, 16, 128) := by kernel_rfl
/-- The cells of a wide number; of some, one behind the other. -/
def wc (z : Int) : List Value := (cells 16 (limb (enc z))).toList
def wcs (l : List Int) : List Value := l.flatMap wc
theorem wc_len (z : Int) : (wc z).length = 16 := by unfold wc; rw [Array.length_toList, cells_size]
theorem wc_one (z : Int) : ∀ u ∈ wc z, u.oneCell' = true := fun u hu => (Array.all_eq_true_iff_forall_mem.1 (cells_one 16 (limb (enc z)))) u (by unfold wc at hu; simpa using hu)
theorem wcs_nil : wcs [] = [] := rfl
theorem wcs_cons (z : Int) (l : List Int) : wcs (z :: l) = wc z ++ wcs l := rfl
theorem wcs_append (l m : List Int) : wcs (l ++ m) = wcs l ++ wcs m := by unfold wcs; rw [List.flatMap_append]
theorem wcs_len (l : List Int) : (wcs l).length = l.length * 16 := by
  induction l with
  | nil => rfl
  | cons z l ih => rw [wcs_cons, List.length_append, wc_len, ih, List.length_cons]; omega
theorem wcs_one {l : List Int} : ∀ u ∈ wcs l, u.oneCell' = true := fun u hu => by
  obtain ⟨z, _, h⟩ := List.mem_flatMap.1 hu
  exact wc_one z u h
theorem zth_split {l : List Int} {i : Nat} (h : i < l.length) : l = l.take i ++ zth l i :: l.drop (i + 1) := by
  rw [zth_get h, ← List.drop_eq_getElem_cons h, List.take_append_drop]
theorem wcs_take_len {l : List Int} {i : Nat} (h : i ≤ l.length) : (wcs (l.take i)).length = i * 16 := by rw [wcs_len, List.length_take]; omega
theorem wcs_split {l : List Int} {i : Nat} (h : i < l.length) : wcs l = wcs (l.take i) ++ (wc (zth l i) ++ wcs (l.drop (i + 1))) := by
  have e := congrArg wcs (zth_split h)
  rw [wcs_append, wcs_cons] at e
  exact e
theorem wcs_mid {l : List Int} {i j : Nat} (h : i < l.length) (hj : j < 16) : (wcs l)[i * 16 + j]? = (wc (zth l i))[j]? := by
  have h1 := wcs_take_len (l := l) (i := i) (by omega)
  rw [wcs_split h, List.getElem?_append_right (by omega), h1, show i * 16 + j - i * 16 = j by omega, List.getElem?_append_left (by rw [wc_len]; exact hj)]
theorem wcs_set {l : List Int} {i : Nat} (h : i < l.length) (z : Int) : (wcs l).take (i * 16) ++ wc z ++ (wcs l).drop (i * 16 + 16) = wcs (l.set i z) := by
  have h1 := wcs_take_len (l := l) (i := i) (by omega)
  rw [List.set_eq_take_append_cons_drop, if_pos h, wcs_append, wcs_cons, wcs_split h, ← h1, List.take_left' rfl, ← List.drop_drop, List.drop_left' rfl, List.drop_left' (by rw [wc_len])]
  rw [List.append_assoc]
/-- Wide numbers in memory of the call's own, from block base on. -/
def OwnW (w : World) (base : Nat) (v : Value) (l : List Int) : Prop := w.ownsRow base 54 16 v l.length (wcs l)
theorem OwnW.up {w w' : World} {base : Nat} {v : Value} {l : List Int} (hu : Up w w') (h : OwnW w base v l) : OwnW w' base v l := World.ownsRow.up h hu
theorem OwnW.nil (w : World) (base : Nat) : OwnW w base (.slice none 0 0) [] := World.ownsRow_nil _ _ _ _
theorem OwnW.slice {w : World} {base : Nat} {v : Value} {l : List Int} (h : OwnW w base v l) : ∃ p c, v = .slice p l.length c := by
  obtain ⟨_, ⟨rfl, h0⟩ | ⟨g, cap, cur, rfl, _⟩⟩ := h
  · exact ⟨none, 0, by rw [h0]⟩
  · exact ⟨_, cap, rfl⟩
/-- The value v is a slice of the wide numbers l, that begins where a block begins. -/
def Wv (w : World) (v : Value) (l : List Int) : Prop :=
  (l = [] ∧ ∃ p c, v = .slice p 0 c) ∨ ∃ g cap C, v = .slice (some ⟨g, 0, none⟩) l.length cap ∧ l.length ≤ cap ∧ Blk w g 54 C ∧ C.toList.take (l.length * 16) = wcs l
theorem Wv.up {w w' : World} (hu : Up w w') {v : Value} {l : List Int} (h : Wv w v l) : Wv w' v l := by
  rcases h with h | ⟨g, cap, C, h1, h2, h3, h4⟩
  · exact .inl h
  · exact .inr ⟨g, cap, C, h1, h2, h3.up hu, h4⟩
theorem OwnW.wv {w : World} {base : Nat} {v : Value} {l : List Int} (h : OwnW w base v l) : Wv w v l := by
  obtain ⟨_, ⟨rfl, h0⟩ | ⟨g, cap, cur, rfl, _, hB, hc, _, _, ht⟩⟩ := h
  · exact .inl ⟨List.length_eq_zero_iff.1 h0, _, _, rfl⟩
  · exact .inr ⟨g, cap, cur, rfl, hc, hB, ht⟩
theorem Wv.slice {w : World} {v : Value} {l : List Int} (h : Wv w v l) : ∃ p c, v = .slice p l.length c := by
  rcases h with ⟨rfl, p, c, rfl⟩ | ⟨g, cap, C, rfl, _⟩
  · exact ⟨p, c, rfl⟩
  · exact ⟨_, cap, rfl⟩
theorem Wv.open {w : World} {v : Value} {l : List Int} (h : Wv w v l) (h0 : 0 < l.length) :
    ∃ g cap C, v = .slice (some ⟨g, 0, none⟩) l.length cap ∧ l.length ≤ cap ∧ Blk w g 54 C ∧ C.toList.take (l.length * 16) = wcs l := by
  rcases h with ⟨rfl, _⟩ | h
  · exact absurd h0 (by decide)
  · exact h
theorem wv_range {w : World} {g : Nat} {C : Array Value} {l : List Int} (hB : Blk w g 54 C) (ht : C.toList.take (l.length * 16) = wcs l) {i : Nat} (hi : i < l.length) : w.rangeAt g (i * 16) (wc (zth l i)) := by
  intro j v hv
  have hj : j < 16 := by have := (List.getElem?_eq_some_iff.1 hv).1; rw [wc_len] at this; exact this
  refine hB.cell _ ?_
  rw [← Array.getElem?_toList, ← List.getElem?_take_of_lt (show i * 16 + j < l.length * 16 by omega), ht, wcs_mid hi hj]
  exact hv
section
variable {a : Act} {w : World} {g off : Nat} {z : Int}
theorem run_ldW {o : Oper} {ev : Operand → Value} {x : Operand} (ho : o.op = .load 54 x) (hx : ev x = .pointer (some ⟨g, off, none⟩)) (hC : w.rangeAt g off (wc z)) :
    (execOp ev o).run Tryz.prog w = .ok (.value (.agg (cells 16 (limb (enc z))))) w := by
  unfold execOp
  simp only [ho, hx, Instr.loadAt, Instr.sureAddr, Sem.run_bind, Sem.run_pure, Result.andThen_ok, run_loadVar_mid w g off _ (wc z) _ hC undW rfl (by rw [infoW, wc_len])]
  unfold wc
  simp
/-- A row's cells with those of z from off on. -/
def splW (C : Array Value) (off : Nat) (z : Int) : Array Value := (C.toList.take off ++ wc z ++ C.toList.drop (off + 16)).toArray
end
theorem OwnW.open {w : World} {base : Nat} {v : Value} {l : List Int} (h : OwnW w base v l) (h0 : 0 < l.length) :
    ∃ g cap C, v = .slice (some ⟨g, 0, none⟩) l.length cap ∧ base ≤ g ∧ Blk w g 54 C ∧ l.length ≤ cap ∧ cap ≤ maxLen ∧ C.size = cap * 16 ∧ C.toList.take (l.length * 16) = wcs l := by
  obtain ⟨_, h1 | ⟨g, cap, cur, hv, hb, hB, hc, hm, hs, ht⟩⟩ := h
  · omega
  · exact ⟨g, cap, cur, hv, hb, hB, hc, hm, hs, ht⟩
theorem set_take {C : List Value} {l : List Int} {i : Nat} (ht : C.take (l.length * 16) = wcs l) (hi : i < l.length) (hC : l.length * 16 ≤ C.length) (z : Int) :
    (C.take (i * 16) ++ wc z ++ C.drop (i * 16 + 16)).take (l.length * 16) = wcs (l.set i z) := by
  rw [← wcs_set hi z, ← ht, List.take_take, Nat.min_eq_left (by omega), List.drop_take]
  have h1 : (C.take (i * 16) ++ wc z).length = i * 16 + 16 := by rw [List.length_append, wc_len, List.length_take]; omega
  rw [List.take_append, h1, List.take_of_length_le (by omega)]
/-- One of the own numbers is another one. -/
theorem OwnW.set {w : World} {base g cap n : Nat} {C : Array Value} {l : List Int} (h : OwnW w base (.slice (some ⟨g, 0, none⟩) n cap) l) (hB : Blk w g 54 C) {i : Nat} (hi : i < l.length) (z : Int) :
    OwnW (w.setRow g (splW C (i * 16) z)) base (.slice (some ⟨g, 0, none⟩) n cap) (l.set i z) ∧ i * 16 + 16 ≤ C.size := by
  obtain ⟨g', cap', C', hv, hb, hB', hc, hm, hs, ht⟩ := h.open (by omega)
  injection hv with e1 e2 e3
  injection e1 with e1
  injection e1 with e1
  subst e1 e2 e3
  have hCC : C' = C := by
    unfold Blk at hB hB'
    rw [hB] at hB'
    simp at hB'
    exact hB'.symm
  subst hCC
  have hl : i * 16 + 16 ≤ C'.size := by omega
  unfold splW
  refine ⟨⟨by rw [wcs_len, List.length_set], .inr ⟨g, cap, _, by rw [List.length_set], hb, hB.setRow _, by rw [List.length_set]; exact hc, hm, ?_, ?_⟩⟩, hl⟩
  · simp [wc_len]; omega
  · rw [List.length_set]
    exact set_take ht hi (by simp; omega) z
/-- append of own wide numbers and of some that lie anywhere. -/
theorem appW {ops : Array Oper} {rest : List Oper} {Q : Exit → Act → World → Prop} {a : Act} {w : World} {d : Option Tmp} {s u : Operand} {ty : TypeId} {pos : String} {af : Array Edge} {base g off c : Nat} {v : Value} {l m : List Int}
    (hs : a.eval s = v) (hu : a.eval u = .slice (some ⟨g, off, none⟩) m.length c) (hown : OwnW w base v l) (hV : w.rangeAt g off (wcs m)) (hbase : base ≤ w.heap.size) (hl : l.length < 1000000) (hm : m.length < 1000000)
    (h : ∀ v' w', OwnW w' base v' (l ++ m) → w.grownBy w' v.ownBlock → Below base w w' → wpList Tryz.prog ops Q rest (a.put d v') w') :
    wpList Tryz.prog ops Q ({ dst := d, op := .call { callee := .builtin .append, args := #[s, u], argTypes := #[41, 41] }, type := ty, pos := pos, after := af, guard := none } :: rest) a w := by
  obtain ⟨i0, hi0, he⟩ := Option.map_eq_some_iff.1 infoWs
  simp only [Prod.mk.injEq] at he
  obtain ⟨z0, hz0, hzs⟩ := Option.map_eq_some_iff.1 he.1
  have hlt := World.ownsRow.lt hown
  refine wpList_append_own w rfl s u 41 rfl base 54 i0 z0 16 128 undWs hi0 hz0 he.2.1 he.2.2 hzs (by decide) v l.length (wcs l) hs hown ⟨g, off, none⟩ m.length c (wcs m) hu (wcs_len m) (fun j x hx => by rw [Addr.add_mid]; exact hV j x hx) wcs_one (by unfold maxLen; omega) (by omega) hbase ?_
  intro v' w' h1 h2 _
  refine h v' w' (by unfold OwnW; rw [List.length_append, wcs_append]; exact h1) h2 ⟨h2.os, h2.tape, h2.output, h2.size, fun k hk => h2.block k (by omega) fun e => ?_⟩
  have := hlt k e.symm
  omega
theorem one_range {w : World} {z : Int} {g : Nat} (h : g = w.heap.size) : (w.alloc (.cells (cells 16 (limb (enc z))) 54)).rangeAt g 0 (wcs [z]) := by
  intro j v hv
  have hB : Blk (w.alloc (.cells (cells 16 (limb (enc z))) 54)) g 54 (cells 16 (limb (enc z))) := Blk.new _ _ h
  rw [Nat.zero_add]
  refine hB.cell _ ?_
  rw [← Array.getElem?_toList]
  rw [show wcs [z] = wc z from by rw [wcs_cons, wcs_nil, List.append_nil]] at hv
  exact hv
theorem fill_one (f : Nat → Nat) (z : Array Value) : Instr.fill (fun i => some (i * 16, 16)) ((Array.range (1 * 16)).map (z[· % z.size]!)) [(0, .agg (cells 16 f))] = some (cells 16 f) := by
  unfold cells
  kernel_rfl
/-- A list of one wide number is made. -/
theorem bsW_P {ops : Array Oper} {rest : List Oper} {Q : Exit → Act → World → Prop} {a : Act} {w : World} {d : Option Tmp} {s : Tmp} {ty : TypeId} {pos : String} {af : Array Edge} {z : Int} (hs : a.eval (.tmp s) = .agg (cells 16 (limb (enc z))))
    (h : wpList Tryz.prog ops Q rest (a.put d (.slice (some ⟨w.heap.size, 0, none⟩) 1 1)) (w.alloc (.cells (cells 16 (limb (enc z))) 54))) :
    wpList Tryz.prog ops Q ({ dst := d, op := .buildSlice 41 1 #[(0, .tmp s)], type := ty, pos := pos, after := af, guard := none } :: rest) a w := by
  obtain ⟨i0, hi0, he⟩ := Option.map_eq_some_iff.1 infoWs
  simp only [Prod.mk.injEq] at he
  obtain ⟨z0, hz0, hzs⟩ := Option.map_eq_some_iff.1 he.1
  refine wpList_buildSlice rfl 41 54 1 _ rfl (cells 16 (limb (enc z))) i0 z0 undWs hi0 hz0 (by rw [he.2.1]; decide) (by rw [he.2.1]; decide) ?_ h
  simp only [List.map_toArray, List.map_cons, List.map_nil, hs, he.2.1]
  exact fill_one _ _
end Go.Proofs.YtdcpoamjmoceiaaGreatDoor
/-
  Symmetric matrices: a matrix times a list.
-/
namespace Go.Proofs.YtdcpoamjmoceiaaGreatDoor
open Go Go.RowKit
set_option maxRecDepth 100000
set_option maxRecDepth 100000

/-- The first k products of row i, together. -/
def tmS (n : Nat) (l x : List Int) (i : Nat) : Nat → Int
  | 0 => 0
  | k + 1 => tmS n l x i k + ent n l i k * zth x k
def tmL (n : Nat) (l x : List Int) : List Int := mk n fun i => tmS n l x i n
def tmC (N : Int) (l x : List Int) : Int := if rt N l && decide ((x.length : Int) = N) then 0 else 23
def tmR (N : Int) (l x : List Int) : List Int := if tmC N l x = 0 then tmL N.toNat l x else []
theorem ent_fit {n : Nat} {l : List Int} (hR : rt n l = true) {i j : Nat} (hi : i < n) (hj : j < n) : (ent n l i j).natAbs ≤ 1073741824 := by
  obtain ⟨k, _, hk, he⟩ := idx_nat hR (show rng (n : Int) i j = true from decide_eq_true (by omega))
  have := (rt_spec hR).2.2.2 k hk
  rw [he]
  have := of_decide_eq_true this
  omega
theorem tmS_abs {n A B : Nat} {l x : List Int} {i : Nat} (hE : ∀ j : Nat, j < n → (ent n l i j).natAbs ≤ A) (hx : ∀ j, j < n → (zth x j).natAbs ≤ B) : ∀ k, k ≤ n → (tmS n l x i k).natAbs ≤ k * (A * B) := by
  intro k
  induction k with
  | zero => intro _; exact Nat.zero_le _
  | succ k ih =>
    intro hk
    have h1 := ih (by omega)
    have h5 := Nat.mul_le_mul (hE k (by omega)) (hx k (by omega))
    rw [← Int.natAbs_mul] at h5
    have h6 := Int.natAbs_add_le (tmS n l x i k) (ent n l i k * zth x k)
    show (tmS n l x i k + ent n l i k * zth x k).natAbs ≤ _
    rw [Nat.succ_mul]
    exact Nat.le_trans h6 (Nat.add_le_add h1 h5)
theorem i64_abs {z : Int} (h : I64 z) : z.natAbs ≤ 9223372036854775808 := by unfold I64 at h; omega
theorem tmS_bp {n : Nat} {l x : List Int} (hR : rt n l = true) (hx : In64 x) (hl : x.length = n) {i k : Nat} (hi : i < n) (hk : k ≤ n) (h8 : n ≤ 8) : (tmS n l x i k).natAbs < bp 2 := by
  have h1 := tmS_abs (A := 1073741824) (B := 9223372036854775808) (fun j hj => ent_fit hR hi hj) (fun j hj => i64_abs (hx j (by rw [hl]; exact hj))) k hk
  have h2 : bp 2 = 18446744073709551616 * 18446744073709551616 := by rw [bp_succ 1, bp_succ 0, bp_zero, Nat.one_mul]
  rw [h2]
  exact Nat.lt_of_le_of_lt h1 (Nat.lt_of_le_of_lt (Nat.mul_le_mul_right _ (show k ≤ 8 by omega)) (by decide))
theorem mul_bp1 {a b : Int} (ha : a.natAbs < bp 1) (hb' : b.natAbs < bp 1) : (a * b).natAbs < bp 2 := by
  rw [Int.natAbs_mul, show bp 2 = bp 1 * bp 1 from by rw [← bp_add]]
  exact Nat.mul_lt_mul_of_lt_of_lt ha hb'
theorem vw_two (w : World) (a b : Int) : Vw (w.alloc (.cells #[.int .i64 a, .int .i64 b] 2)) (.slice (some ⟨w.heap.size, 0, none⟩) 2 2) [a, b] := by
  refine ⟨_, 2, rfl, ⟨Nat.le_refl _, fun e => by cases e⟩, fun i hi => ⟨_, rfl, ?_⟩⟩
  rcases i with _ | _ | i
  · simp [zth, Addr.add]
  · simp [zth, Addr.add]
  · simp at hi; omega
theorem tmL_succ (n : Nat) (l x : List Int) {i : Nat} (hi : i < n) : (tmL n l x).take (i + 1) = (tmL n l x).take i ++ [tmS n l x i n] := by
  have hl : (tmL n l x).length = n := mk_len _ _
  rw [List.take_add_one, List.getElem?_eq_getElem (by omega)]
  have : (tmL n l x)[i]'(by omega) = tmS n l x i n := by
    have := mk_at (f := fun i => tmS n l x i n) hi
    rw [zth_get (by rw [mk_len]; exact hi)] at this
    exact this
  rw [this]
  rfl
/-- What a call leaves that tells wide numbers, and an error or none. -/
def WidesPost (w : World) (l : List Int) (e : Int) (r : Ending) (w' : World) : Prop := ∃ z u, r = .returned (.tuple #[z, u]) ∧ Up w w' ∧ Wv w' z l ∧ Errs w' u e
theorem wv_nil (w : World) : Wv w (.slice none 0 0) [] := .inl ⟨rfl, none, 0, rfl⟩
set_option maxHeartbeats 8000000 in
theorem times_w {v xv : Value} {N : Int} {l x : List Int} {w : World} (hm : Sm w v N l) (hh : Vw w xv x) (hI : In64 x) (hh3 : x.length ≤ 1000) :
    Calls Tryz.prog 17 #[v, xv] w (WidesPost w (tmR N l x) (tmC N l x)) := by
  have HR := hid (fun w' (hu : Up w w') => sright_any (hm.up hu))
  have HWR := hid wrong_any
  obtain ⟨s, rfl, hV, hN, hl, hlen⟩ := hm
  have HVl := hid hV
  obtain ⟨p, cap, rfl, hcap, hc⟩ := hV
  have HH := hid hh
  obtain ⟨q, cq, rfl, _⟩ := hh
  obtain ⟨W0, hW0⟩ : ∃ W0, w.alloc (.cells #[.int .i64 N, .slice p l.length cap] 24) = W0 := ⟨_, rfl⟩
  have hB : Blk W0 w.heap.size 24 #[.int .i64 N, .slice p l.length cap] := by rw [← hW0]; exact Blk.new _ _ rfl
  have hU : Up w W0 := by rw [← hW0]; exact Up.alloc _ _
  cases hR : rt N l with
  | false =>
    have e : tmC N l x = 23 := by unfold tmC; rw [hR]; rfl
    have e2 : tmR N l x = [] := by unfold tmR; rw [e]; rfl
    rw [e, e2]
    rw [hR] at HR
    clear e e2 hR hc hl hN hI
    go_enter Tryz.func17, Tryz.ntmps17
    go_wp2_with (first
      | ((with_reducible apply ldM_P); exact rfl; exact rfl; exact hB; exact rfl)
      | (go_at_call 42; (with_reducible refine (HR.out _ hU).mono ?_); rintro r w1 ⟨rfl, hu1⟩)
      | (go_at_call 43; (with_reducible refine (HWR.out _ _).mono ?_); rintro r w2 ⟨t2, u2, rfl, hu2, h2⟩))
    go_ret2
    exact ⟨_, _, rfl, (hU.trans hu1).trans hu2, wv_nil _, Errs.some_ (by decide) h2⟩
  | true =>
    rw [hR] at HR
    by_cases hn0 : (x.length : Int) = N
    · obtain ⟨n, rfl⟩ : ∃ n : Nat, N = (n : Int) := ⟨x.length, hn0.symm⟩
      have hxn : x.length = n := by omega
      obtain ⟨_, n8, htri, _⟩ := rt_spec hR
      have e : tmC n l x = 0 := by unfold tmC; rw [hR, decide_eq_true hn0]; rfl
      have e2 : tmR n l x = tmL n l x := by unfold tmR; rw [e, if_pos rfl]; rfl
      rw [e, e2]
      have d3 : ((x.length : Int) != (n : Int)) = false := by rw [hn0]; simp
      have HIX := hid (fun (i j : Nat) (hi : i < n) (hj : j < n) => idx_nat hR (show rng (n : Int) i j = true from decide_eq_true (by omega)))
      have HX := hid (fun (i j : Nat) (hi : i < n) (hj : j < n) w => idx_any (n : Int) (i : Int) (j : Int) n8 (by omega) (by omega) (by omega) (by omega) w)
      have HCell := hid (fun w' (hu : Up w w') (k : Nat) (hk : k < l.length) => show ∃ a, p = some a ∧ w'.cell? (a.add k) = some (.int .i64 (zth l k)) from by obtain ⟨a, h1, h2⟩ := hc k hk; exact ⟨a, h1, hu.cellEq h2⟩)
      have HS := hid (fun i k (hi : i < n) (hk : k ≤ n) => tmS_bp hR hI hxn hi hk (by omega))
      have HI64 := hid hI
      have Hl64 := hid hl
      have HTL := hid (fun i (hi : i < n) => tmL_succ n l x hi)
      have hTl : (tmL n l x).length = n := mk_len _ _
      have HTl := hid hTl
      have hn8 : n ≤ 8 := by omega
      have hxl9 := hxn
      clear e e2 hR hc hl hN hI hn0 htri hTl n8
      obtain ⟨T, hT⟩ : ∃ T, tmL n l x = T := ⟨_, rfl⟩
      rw [hT] at HTL HTl ⊢
      clear hT
      go_enter Tryz.func17, Tryz.ntmps17
      go_wp2_with (first
        | ((with_reducible apply ldM_P); exact rfl; exact rfl; exact hB; exact rfl)
        | (go_at_call 42; (with_reducible refine (HR.out _ hU).mono ?_); rintro r w1 ⟨rfl, hu1⟩; replace hB := hB.up hu1; replace hU := hU.trans hu1; have hc0 := hB.cell 0 rfl))
      obtain ⟨wS, rfl⟩ : ∃ y, y = w1 := ⟨_, rfl⟩
      clear hc0 hu1 hW0
      go_loopg [6, 23] n (fun g ta ti wr => ∃ i : Nat, i ≤ n ∧ n - i ≤ g ∧ ti = .int .i64 (i : Nat) ∧ OwnW wr wS.heap.size ta (T.take i) ∧ Up wS wr)
      case atStart => exact ⟨0, Nat.zero_le _, by omega, rfl, by rw [List.take_zero]; exact OwnW.nil _ _, Up.refl _⟩
      case round =>
        obtain ⟨i, hi, hig, rfl, hO, hu⟩ := hrel
        by_cases hlt : i < n
        · have e1 : IntKind.i64.wrap ((i : Int) + 1) = (i : Int) + 1 := IntWalk.i64_in _ (by omega)
          obtain ⟨wI, hwI⟩ : ∃ y, wr.alloc (.cells (cells 16 (fun _ => 0)) 54) = y := ⟨_, rfl⟩
          have hRow0 : Row wI wr.heap.size 54 16 (limb (enc (tmS n l x i 0))) := by
            rw [← hwI]; show Blk _ _ _ (cells 16 (limb (enc 0))); rw [← zero_limb]; exact Blk.new _ _ rfl
          have hUI : Up wr wI := by rw [← hwI]; exact Up.alloc _ _
          rw [← zeros16] at hwI
          have hc0 := (hB.up (hu.trans hUI)).cell 0 rfl
          go_wp2_with fail
          obtain ⟨bS, hbS⟩ : ∃ y, wr.heap.size = y := ⟨_, rfl⟩
          rw [hbS] at hRow0 ⊢
          clear hwI hc0
          obtain ⟨wO, hwO⟩ : ∃ y, wr = y := ⟨_, rfl⟩
          rw [hwO] at hO hu hUI hbS
          clear hwO
          go_loopg [28] n (fun g tj wr => ∃ j : Nat, j ≤ n ∧ n - j ≤ g ∧ tj = .int .i64 (j : Nat) ∧ Row wr bS 54 16 (limb (enc (tmS n l x i j))) ∧ Up wO wr)
          case atStart => exact ⟨0, Nat.zero_le _, by omega, rfl, hRow0, hUI⟩
          case round =>
            clear hRow0 hUI
            obtain ⟨j, hj, hjg, rfl, hRow, huj⟩ := hrel
            have hBj := hB.up (hu.trans huj)
            have hc0 := hBj.cell 0 rfl
            by_cases hjlt : j < n
            · have e2 : IntKind.i64.wrap ((j : Int) + 1) = (j : Int) + 1 := IntWalk.i64_in _ (by omega)
              obtain ⟨k, hk, hkl, hke⟩ := HIX.out i j hlt hjlt
              have HXk := hid (fun w => hk ▸ HX.out i j hlt hjlt w)
              obtain ⟨ad, rfl, -⟩ := HCell.out _ (Up.refl w) k hkl
              have hjx : j < x.length := by omega
              obtain ⟨q', cq', xq, _, hcq⟩ := HH.out
              injection xq with y1 y2 y3
              subst y1 y3
              obtain ⟨adx, rfl, -⟩ := hcq j hjx
              have HAd := hid (fun w' (hu : Up w w') => (show w'.cell? (adx.add j) = some (.int .i64 (zth x j)) from by obtain ⟨a2, z1, z2⟩ := hcq j hjx; injection z1 with z1; subst z1; exact hu.cellEq z2))
              have HAl := hid (fun w' (hu : Up w w') => (show w'.cell? (ad.add k) = some (.int .i64 (zth l k)) from by obtain ⟨a2, z1, z2⟩ := HCell.out w' hu k hkl; injection z1 with z1; subst z1; exact z2))
              have hak := Hl64.out k hkl
              have hxj := HI64.out j hjx
              have h64 : In64 [zth l k, zth x j] := by
                intro q hq
                rcases q with _ | _ | q
                · exact hak
                · exact hxj
                · simp at hq; omega
              have epr : prodL [zth l k, zth x j] = zth l k * zth x j := by simp [prodL]
              have HPr := hid (fun v w (hv : Vw w v [zth l k, zth x j]) => epr ▸ product_any hv h64 (show 2 ≤ 10 by decide))
              have eS : tmS n l x i (j + 1) = tmS n l x i j + zth l k * zth x j := by rw [← hke]; rfl
              have hS1 := HS.out i j hlt hj
              have hS2 := HS.out i (j + 1) hlt hjlt
              have hprb : (zth l k * zth x j).natAbs < bp 2 := mul_bp1 (i64_bp hak) (i64_bp hxj)
              have HPl := hid (fun w => plus_sum (w := w) (inR_bp (k := 2) (by omega) hS1) (inR_bp (k := 2) (by omega) hprb) (by rw [← eS]; exact inR_bp (k := 2) (by omega) hS2))
              rw [← eS] at HPl
              clear hcq hk hke hak hxj h64 epr eS hS1 hS2 hprb y2
              unfold wideV at *
              obtain ⟨S2, hS29⟩ : ∃ y, tmS n l x i (j + 1) = y := ⟨_, rfl⟩
              have HS2 := hid hS29
              rw [hS29] at HPl
              clear hS29
              generalize tmS n l x i j = S1 at *
              obtain ⟨pr, hpr⟩ : ∃ z, zth l k * zth x j = z := ⟨_, rfl⟩
              rw [hpr] at HPr HPl
              clear hpr
              generalize zth l k = ak at *
              generalize zth x j = xj at *
              go_wp2_with fail
              refine wp_region_sp (n := 55) 17 [31, 32, 33, 34, 35, 36, 37, 38, 39, 40, 41, 42, 43, 44, 45, 46, 47] [SP.is (.agg (cells 16 (limb (enc S1)))), SP.is (.pointer (some ⟨w.heap.size, 1, none⟩)), SP.is (.slice (some ad) l.length cap), SP.is (.pointer (some ⟨w.heap.size, 0, none⟩)), SP.is (.int .i64 (n : Nat)), SP.is (.int .i64 (i : Nat)), SP.is (.int .i64 (j : Nat)), SP.is (.int .i64 (k : Nat)), SP.is (.pointer (some (ad.add k))), SP.is (.int .i64 ak), SP.is (.slice (some adx) x.length cq), SP.is (.int .i64 (j : Nat)), SP.is (.pointer (some (adx.add j))), SP.is (.int .i64 xj), SP.of (fun v w1 => Vw w1 v [ak, xj]) (fun _ _ _ h hu => Vw.up hu h), SP.is (.agg (cells 16 (limb (enc pr)))), SP.is (.agg (cells 16 (limb (enc S2)))), SP.any] (fun wq => Up wr wq ∧ Row wq bS 54 16 (limb (enc S1)) ∧ Below w.heap.size w wq) (by kernel_rfl) (by rfl) (by kernel_rfl) (by kernel_rfl) (fun _ _ h hu => ⟨(h.1).trans hu, (h.2.1).up hu, below_up (h.2.2) hu⟩) ⟨(by first | exact Up.refl _ | assumption), (by assumption), (by repeat (first | assumption | (with_reducible apply Up.of) | (with_reducible exact Below.refl _ _) | (with_reducible exact Up.refl _) | ((with_reducible apply bl_setRow); (focus (first | exact Nat.le_refl _ | (simp; done) | (simp; omega) | omega))) | (with_reducible apply below_drewN) | (with_reducible apply Below.drew) | ((with_reducible apply bl_alloc); (focus (first | exact Nat.le_refl _ | (simp; done) | (simp; omega) | omega))) | ((with_reducible apply bl_setCell); (focus (first | exact Nat.le_refl _ | (simp; done) | (simp; omega) | omega))) | ((with_reducible apply up_tr); assumption)))⟩ (fun ev w9 hS9 i o hne hi hev => ?_) (fun gR wE hq hSE huE => ?_)
              · have ⟨hS1, hS2, hSB⟩ := hS9
                have hcC := hev.const
                have hcF := hev.func
                have hcG := hev.global
                rcases i with _ | _ | _ | _ | _ | _ | _ | _ | _ | _ | _ | _ | _ | _ | _ | _ | _ | _ | i
                · obtain rfl := Option.some.inj (show some _ = some o from hi)
                  have e8 := hev.other 8 (by kernel_rfl)
                  simp [Act.eval] at e8
                  exact leavesR_value (run_ldE undW infoW rfl e8 hS2) rfl
                · obtain rfl := Option.some.inj (show some _ = some o from hi)
                  have e2 := hev.other 2 (by kernel_rfl)
                  simp [Act.eval] at e2
                  exact leavesR_value (u := .pointer (some ⟨w.heap.size, 1, none⟩)) (by first | (go_simp; done) | (go_simp; exact rfl)) rfl
                · obtain rfl := Option.some.inj (show some _ = some o from hi)
                  have e32 : ev (.tmp 32) = (.pointer (some ⟨w.heap.size, 1, none⟩)) := hev.dep 1 32 (by kernel_rfl)
                  have hcx := (hBj.up hS1).cell 1 rfl; exact leavesR_value (u := .slice (some ad) l.length cap) (by go_simp) rfl
                · obtain rfl := Option.some.inj (show some _ = some o from hi)
                  have e2 := hev.other 2 (by kernel_rfl)
                  simp [Act.eval] at e2
                  exact leavesR_value (u := .pointer (some ⟨w.heap.size, 0, none⟩)) (by first | (go_simp; done) | (go_simp; exact rfl)) rfl
                · obtain rfl := Option.some.inj (show some _ = some o from hi)
                  have e34 : ev (.tmp 34) = (.pointer (some ⟨w.heap.size, 0, none⟩)) := hev.dep 3 34 (by kernel_rfl)
                  have hcx := (hBj.up hS1).cell 0 rfl; exact leavesR_value (u := .int .i64 (n : Nat)) (by go_simp) rfl
                · obtain rfl := Option.some.inj (show some _ = some o from hi)
                  have e7 := hev.other 7 (by kernel_rfl)
                  simp [Act.eval] at e7
                  exact leavesR_value (u := .int .i64 (i : Nat)) (by first | (go_simp; done) | (go_simp; exact rfl)) rfl
                · obtain rfl := Option.some.inj (show some _ = some o from hi)
                  have e9 := hev.other 9 (by kernel_rfl)
                  simp [Act.eval] at e9
                  exact leavesR_value (u := .int .i64 (j : Nat)) (by first | (go_simp; done) | (go_simp; exact rfl)) rfl
                · obtain rfl := Option.some.inj (show some _ = some o from hi)
                  have e35 : ev (.tmp 35) = (.int .i64 (n : Nat)) := hev.dep 4 35 (by kernel_rfl)
                  have e36 : ev (.tmp 36) = (.int .i64 (i : Nat)) := hev.dep 5 36 (by kernel_rfl)
                  have e37 : ev (.tmp 37) = (.int .i64 (j : Nat)) := hev.dep 6 37 (by kernel_rfl)
                  refine leavesR_call ?_ ((HXk.out _).mono fun _ _ h => ⟨by rw [h.2]; exact Up.refl _, _, h.1, rfl⟩)
                  go_simp
                · obtain rfl := Option.some.inj (show some _ = some o from hi)
                  have e33 : ev (.tmp 33) = (.slice (some ad) l.length cap) := hev.dep 2 33 (by kernel_rfl)
                  have e38 : ev (.tmp 38) = (.int .i64 (k : Nat)) := hev.dep 7 38 (by kernel_rfl)
                  exact leavesR_value (u := .pointer (some (ad.add k))) (by first | (go_simp; done) | (go_simp; exact rfl)) rfl
                · obtain rfl := Option.some.inj (show some _ = some o from hi)
                  have e39 : ev (.tmp 39) = (.pointer (some (ad.add k))) := hev.dep 8 39 (by kernel_rfl)
                  have hcx := HAl.out w9 (hU.trans (hu.trans (huj.trans hS1))); exact leavesR_value (u := .int .i64 ak) (by go_simp) rfl
                · obtain rfl := Option.some.inj (show some _ = some o from hi)
                  have e1 := hev.other 1 (by kernel_rfl)
                  simp [Act.eval] at e1
                  exact leavesR_value (u := .slice (some adx) x.length cq) (by first | (go_simp; done) | (go_simp; exact rfl)) rfl
                · obtain rfl := Option.some.inj (show some _ = some o from hi)
                  have e9 := hev.other 9 (by kernel_rfl)
                  simp [Act.eval] at e9
                  exact leavesR_value (u := .int .i64 (j : Nat)) (by first | (go_simp; done) | (go_simp; exact rfl)) rfl
                · obtain rfl := Option.some.inj (show some _ = some o from hi)
                  have e41 : ev (.tmp 41) = (.slice (some adx) x.length cq) := hev.dep 10 41 (by kernel_rfl)
                  have e42 : ev (.tmp 42) = (.int .i64 (j : Nat)) := hev.dep 11 42 (by kernel_rfl)
                  exact leavesR_value (u := .pointer (some (adx.add j))) (by first | (go_simp; done) | (go_simp; exact rfl)) rfl
                · obtain rfl := Option.some.inj (show some _ = some o from hi)
                  have e43 : ev (.tmp 43) = (.pointer (some (adx.add j))) := hev.dep 12 43 (by kernel_rfl)
                  have hcx := HAd.out w9 (hU.trans (hu.trans (huj.trans hS1))); exact leavesR_value (u := .int .i64 xj) (by go_simp) rfl
                · obtain rfl := Option.some.inj (show some _ = some o from hi)
                  have e40 : ev (.tmp 40) = (.int .i64 ak) := hev.dep 9 40 (by kernel_rfl)
                  have e44 : ev (.tmp 44) = (.int .i64 xj) := hev.dep 13 44 (by kernel_rfl)
                  exact leavesR_up (u := .slice (some ⟨w9.heap.size, 0, none⟩) 2 2) (w' := w9.alloc (.cells #[.int .i64 ak, .int .i64 xj] 2)) (by go_simp) (Up.alloc _ _) (vw_two w9 ak xj)
                · obtain rfl := Option.some.inj (show some _ = some o from hi)
                  have e45 : (fun v w1 => Vw w1 v [ak, xj]) (ev (.tmp 45)) w9 := hev.dep 14 45 (by kernel_rfl)
                  dsimp only at e45
                  obtain ⟨v45, hv45⟩ : ∃ v, ev (.tmp 45) = v := ⟨_, rfl⟩
                  rw [hv45] at e45
                  refine leavesR_call ?_ ((HPr.out _ _ e45).mono fun _ _ h => ⟨h.2, _, h.1, rfl⟩)
                  go_simp
                · obtain rfl := Option.some.inj (show some _ = some o from hi)
                  have e31 : ev (.tmp 31) = (.agg (cells 16 (limb (enc S1)))) := hev.dep 0 31 (by kernel_rfl)
                  have e46 : ev (.tmp 46) = (.agg (cells 16 (limb (enc pr)))) := hev.dep 15 46 (by kernel_rfl)
                  refine leavesR_call ?_ ((HPl.out _).mono fun _ _ h => ⟨h.2, _, h.1, rfl⟩)
                  go_simp
                · exact absurd rfl hne
                · exact absurd (show i + 18 < 18 from (Array.getElem?_eq_some_iff.1 hi).1) (by omega)
              have ⟨hS1, hS2, hSB⟩ := hSE
              have q0 : gR 31 = (.agg (cells 16 (limb (enc S1)))) := hq 0 31 (by decide) (by kernel_rfl)
              have q1 : gR 32 = (.pointer (some ⟨w.heap.size, 1, none⟩)) := hq 1 32 (by decide) (by kernel_rfl)
              have q2 : gR 33 = (.slice (some ad) l.length cap) := hq 2 33 (by decide) (by kernel_rfl)
              have q3 : gR 34 = (.pointer (some ⟨w.heap.size, 0, none⟩)) := hq 3 34 (by decide) (by kernel_rfl)
              have q4 : gR 35 = (.int .i64 (n : Nat)) := hq 4 35 (by decide) (by kernel_rfl)
              have q5 : gR 36 = (.int .i64 (i : Nat)) := hq 5 36 (by decide) (by kernel_rfl)
              have q6 : gR 37 = (.int .i64 (j : Nat)) := hq 6 37 (by decide) (by kernel_rfl)
              have q7 : gR 38 = (.int .i64 (k : Nat)) := hq 7 38 (by decide) (by kernel_rfl)
              have q8 : gR 39 = (.pointer (some (ad.add k))) := hq 8 39 (by decide) (by kernel_rfl)
              have q9 : gR 40 = (.int .i64 ak) := hq 9 40 (by decide) (by kernel_rfl)
              have q10 : gR 41 = (.slice (some adx) x.length cq) := hq 10 41 (by decide) (by kernel_rfl)
              have q11 : gR 42 = (.int .i64 (j : Nat)) := hq 11 42 (by decide) (by kernel_rfl)
              have q12 : gR 43 = (.pointer (some (adx.add j))) := hq 12 43 (by decide) (by kernel_rfl)
              have q13 : gR 44 = (.int .i64 xj) := hq 13 44 (by decide) (by kernel_rfl)
              have q14 : (fun v w1 => Vw w1 v [ak, xj]) (gR 45) wE := hq 14 45 (by decide) (by kernel_rfl)
              dsimp only at q14
              obtain ⟨v45, hv45⟩ : ∃ v, gR 45 = v := ⟨_, rfl⟩
              rw [hv45] at q14
              have q15 : gR 46 = (.agg (cells 16 (limb (enc pr)))) := hq 15 46 (by decide) (by kernel_rfl)
              have q16 : gR 47 = (.agg (cells 16 (limb (enc S2)))) := hq 16 47 (by decide) (by kernel_rfl)
              refine ⟨fun h => absurd h (by decide), fun o ho => ?_⟩
              obtain rfl := Option.some.inj (show some _ = some o from ho)
              simp only [putL, List.map_cons, List.map_nil, q0, q1, q2, q3, q4, q5, q6, q7, q8, q9, q10, q11, q12, q13, hv45, q15, q16, Act.put, List.setIfInBounds_toArray, List.set_cons_zero, List.set_cons_succ]
              clear hq hSE q0 q1 q2 q3 q4 q5 q6 q7 q8 q9 q10 q11 q12 q13 q15 q16
              refine wp_st_rowN infoW rfl _ _ rfl _ rfl rfl hS2 ?_
              have hR9 := hS2.setRow (limb (enc S2))
              have hu9 := (huj.trans hS1)
              have hU9 := below_setRow hu9 (show wO.heap.size ≤ bS by omega) (cells 16 (limb (enc S2)))
              obtain ⟨wK, hwK⟩ : ∃ y, wE.setRow bS (cells 16 (limb (enc S2))) = y := ⟨_, rfl⟩
              rw [hwK] at hR9 hU9 ⊢
              clear hwK hS1 hS2 hSB huE hu9 q14
              go_wp2_with fail
              go_roundg (n - (j + 1))
              case measure => omega
              case rel => exact ⟨j + 1, hjlt, Nat.le_refl _, rfl, by rw [HS2.out]; exact hR9, hU9⟩
            · obtain rfl : j = n := by omega
              have hTs := HTL.out i hlt
              have HT9 := hid hTs
              have hszj := huj.size
              have hszu := hu.size
              have HTk : Hid ((T.take i).length < 1000000) := hid (by rw [List.length_take, HTl.out]; omega)
              clear hTs
              generalize tmS j l x i j = S at *
              go_wp2_with (first
                | ((with_reducible apply ld_rowP undW infoW); exact rfl; exact rfl; focus (repeat (first | assumption | ((with_reducible apply row_newc); (focus (first | rfl | (simp; done)))) | ((with_reducible apply row_newz); (focus (first | rfl | (simp; done)))) | (with_reducible apply row_same) | ((with_reducible apply row_else); (focus (first | (simp; done) | (simp; omega) | omega))) | (with_reducible apply row_alloc) | (with_reducible apply row_drew) | (with_reducible apply row_drewN) | ((with_reducible apply row_up); assumption))))
                | ((with_reducible apply bsW_P); exact rfl)
                | ((with_reducible apply appW (l := T.take i) (m := [S])); exact rfl; exact rfl; exact OwnW.up (huj.trans (Up.alloc _ _)) hO; exact one_range rfl; (focus (simp; omega)); exact HTk.out; (focus (simp; done)); rintro v6 w6 hO6 - hb6))
              go_roundg (j - (i + 1))
              case measure => omega
              case rel => exact ⟨i + 1, hlt, Nat.le_refl _, rfl, by rw [HT9.out]; exact hO6, Below.trans ((hu.trans huj).trans (Up.alloc _ _)) hb6⟩
        · obtain rfl : i = n := by omega
          rw [← HTl.out, List.take_length] at hO
          go_wp2_with fail
          go_ret2
          exact ⟨_, _, rfl, hU.trans hu, hO.wv, Errs.none_ _⟩
    · have e : tmC N l x = 23 := by unfold tmC; rw [hR, decide_eq_false hn0]; rfl
      have e2 : tmR N l x = [] := by unfold tmR; rw [e]; rfl
      rw [e, e2]
      have d3 : ((x.length : Int) != N) = true := by simpa using hn0
      clear e e2 hR hc hl hN hI hn0
      go_enter Tryz.func17, Tryz.ntmps17
      go_wp2_with (first
        | ((with_reducible apply ldM_P); exact rfl; exact rfl; exact hB; exact rfl)
        | (go_at_call 42; (with_reducible refine (HR.out _ hU).mono ?_); rintro r w1 ⟨rfl, hu1⟩; replace hB := hB.up hu1; have hc0 := hB.cell 0 rfl)
        | (go_at_call 43; (with_reducible refine (HWR.out _ _).mono ?_); rintro r w2 ⟨t2, u2, rfl, hu2, h2⟩))
      go_ret2
      exact ⟨_, _, rfl, (hU.trans hu1).trans hu2, wv_nil _, Errs.some_ (by decide) h2⟩
end Go.Proofs.YtdcpoamjmoceiaaGreatDoor
/-
  Lists of the reference's whole numbers in memory.
-/
namespace Go.Proofs.YtdcpoamjmoceiaaGreatDoor
open Go Go.RowKit
set_option maxRecDepth 100000
set_option maxRecDepth 100000

theorem undBs : Tryz.prog.underlying 44 = some (.slice 61) := by kernel_rfl
theorem infoBs : (Tryz.prog.info? 61).map (fun i => (i.zero, i.size, i.bytes)) = some (some (.agg #[.bool false, .slice none 0 0]), 2, 32) := by kernel_rfl
/-- The i-th number by its two cells. -/
def BigAt (w : World) (get : Nat → Option Value) (i : Nat) (z : Int) : Prop :=
  ∃ b a n c, get (i * 2) = some (.bool b) ∧ get (i * 2 + 1) = some (.slice a n c) ∧ Big w (.agg #[.bool b, .slice a n c]) z
theorem BigAt.up {w w' : World} (hu : Up w w') {get : Nat → Option Value} {i : Nat} {z : Int} (h : BigAt w get i z) : BigAt w' get i z := by
  obtain ⟨b, a, n, c, h1, h2, h3⟩ := h
  exact ⟨b, a, n, c, h1, h2, h3.up hu⟩
/-- Such numbers in memory of the call's own, from block base on. -/
def OwnB (w : World) (base : Nat) (v : Value) (l : List Int) : Prop :=
  ∃ xs : List Value, w.ownsRow base 61 2 v l.length xs ∧ ∀ i, i < l.length → BigAt w (fun k => xs[k]?) i (zth l i)
theorem OwnB.up {w w' : World} {base : Nat} {v : Value} {l : List Int} (hu : Up w w') (h : OwnB w base v l) : OwnB w' base v l := by
  obtain ⟨xs, h1, h2⟩ := h
  exact ⟨xs, World.ownsRow.up h1 hu, fun i hi => (h2 i hi).up hu⟩
theorem OwnB.nil (w : World) (base : Nat) : OwnB w base (.slice none 0 0) [] := ⟨[], World.ownsRow_nil _ _ _ _, fun i hi => absurd hi (Nat.not_lt_zero _)⟩
/-- The value v is a slice of the numbers l, that begins where a block begins. -/
def Bv (w : World) (v : Value) (l : List Int) : Prop :=
  (l = [] ∧ ∃ p c, v = .slice p 0 c) ∨ ∃ g cap C, v = .slice (some ⟨g, 0, none⟩) l.length cap ∧ l.length ≤ cap ∧ Blk w g 61 C ∧ ∀ i, i < l.length → BigAt w (fun k => C[k]?) i (zth l i)
theorem Bv.up {w w' : World} (hu : Up w w') {v : Value} {l : List Int} (h : Bv w v l) : Bv w' v l := by
  rcases h with h | ⟨g, cap, C, h1, h2, h3, h4⟩
  · exact .inl h
  · exact .inr ⟨g, cap, C, h1, h2, h3.up hu, fun i hi => (h4 i hi).up hu⟩
theorem Bv.slice {w : World} {v : Value} {l : List Int} (h : Bv w v l) : ∃ p c, v = .slice p l.length c := by
  rcases h with ⟨rfl, p, c, rfl⟩ | ⟨g, cap, C, rfl, _⟩
  · exact ⟨p, c, rfl⟩
  · exact ⟨_, cap, rfl⟩
theorem Bv.open {w : World} {v : Value} {l : List Int} (h : Bv w v l) (h0 : 0 < l.length) :
    ∃ g cap C, v = .slice (some ⟨g, 0, none⟩) l.length cap ∧ l.length ≤ cap ∧ Blk w g 61 C ∧ ∀ i, i < l.length → BigAt w (fun k => C[k]?) i (zth l i) := by
  rcases h with ⟨rfl, _⟩ | h
  · exact absurd h0 (by decide)
  · exact h
theorem OwnB.open {w : World} {base : Nat} {v : Value} {l : List Int} (h : OwnB w base v l) (h0 : 0 < l.length) :
    ∃ g cap C, v = .slice (some ⟨g, 0, none⟩) l.length cap ∧ base ≤ g ∧ Blk w g 61 C ∧ l.length ≤ cap ∧ cap ≤ maxLen ∧ C.size = cap * 2 ∧ ∀ i, i < l.length → BigAt w (fun k => C[k]?) i (zth l i) := by
  obtain ⟨xs, ⟨_, h1 | ⟨g, cap, cur, hv, hb, hB, hc, hm, hs, ht⟩⟩, h2⟩ := h
  · omega
  · refine ⟨g, cap, cur, hv, hb, hB, hc, hm, hs, fun i hi => ?_⟩
    obtain ⟨b, a, n, c, h3, h4, h5⟩ := h2 i hi
    rw [← ht] at h3 h4
    refine ⟨b, a, n, c, ?_, ?_, h5⟩
    · dsimp only at h3 ⊢; rw [← h3, List.getElem?_take_of_lt (by omega), Array.getElem?_toList]
    · dsimp only at h4 ⊢; rw [← h4, List.getElem?_take_of_lt (by omega), Array.getElem?_toList]
theorem OwnB.bv {w : World} {base : Nat} {v : Value} {l : List Int} (h : OwnB w base v l) : Bv w v l := by
  rcases Nat.eq_zero_or_pos l.length with h0 | h0
  · obtain ⟨xs, ⟨_, ⟨rfl, _⟩ | ⟨g, cap, cur, rfl, _⟩⟩, _⟩ := h
    · exact .inl ⟨List.length_eq_zero_iff.1 h0, _, _, rfl⟩
    · exact .inl ⟨List.length_eq_zero_iff.1 h0, _, _, by rw [h0]⟩
  · obtain ⟨g, cap, C, hv, _, hB, hc, _, _, hE⟩ := h.open h0
    exact .inr ⟨g, cap, C, hv, hc, hB, hE⟩
theorem OwnB.slice {w : World} {base : Nat} {v : Value} {l : List Int} (h : OwnB w base v l) : ∃ p c, v = .slice p l.length c := h.bv.slice
theorem big_zero (w : World) : Big w (.agg #[.bool false, .slice none 0 0]) 0 := ⟨none, 0, by simp [nl_zero], am_nil w⟩
section
variable {a : Act} {w : World} {g off : Nat} {vs : List Value}
theorem bigAt_range {C : Array Value} (hB : Blk w g 61 C) {i : Nat} {b : Bool} {p : Option Addr} {n c : Nat} (h1 : C[i * 2]? = some (.bool b)) (h2 : C[i * 2 + 1]? = some (.slice p n c)) : w.rangeAt g (i * 2) [.bool b, .slice p n c] := by
  intro j v hv
  rcases j with _ | _ | j
  · simp at hv; subst hv; exact hB.cell _ h1
  · simp at hv; subst hv; exact hB.cell _ h2
  · simp at hv
theorem run_ldB2 {o : Oper} {ev : Operand → Value} {x : Operand} {b : Bool} {p : Option Addr} {n c : Nat} (ho : o.op = .load 61 x) (hx : ev x = .pointer (some ⟨g, off, none⟩)) (hC : w.rangeAt g off [.bool b, .slice p n c]) :
    (execOp ev o).run Tryz.prog w = .ok (.value (.agg #[.bool b, .slice p n c])) w := by
  obtain ⟨fs, hfs⟩ := undB
  unfold execOp
  simp only [ho, hx, Instr.loadAt, Instr.sureAddr, Sem.run_bind, Sem.run_pure, Result.andThen_ok, run_loadVar_mid w g off _ _ _ hC hfs rfl (by rw [infoB]; rfl)]
/-- A row's cells with two others from off on. -/
def splB (C : Array Value) (off : Nat) (vs : List Value) : Array Value := (C.toList.take off ++ vs ++ C.toList.drop (off + 2)).toArray
theorem run_svB {C : Array Value} {b : Bool} {p : Option Addr} {n c : Nat} (hB : Blk w g 61 C) (hl : off + 2 ≤ C.size) :
    (storeVar 61 ⟨g, off, none⟩ (.agg #[.bool b, .slice p n c])).run Tryz.prog w = .ok () (w.setRow g (splB C off [.bool b, .slice p n c])) := by
  have hs := run_storeCells_at Tryz.prog g off 61 [.bool b, .slice p n c] 0 C w hB (by simp; omega) (by simp [Value.oneCell'])
  rw [Nat.add_zero] at hs
  unfold splB
  have hi := infoB
  cases hq : Tryz.prog.info? 61 with
  | none => rw [hq] at hi; simp at hi
  | some i =>
    rw [hq] at hi
    have hz : i.size = 2 := by simpa using hi
    have hv : (Value.agg #[.bool b, .slice p n c]).cells.toList = [.bool b, .slice p n c] := rfl
    have hn : (Value.agg #[.bool b, .slice p n c]).cells.size = 2 := rfl
    have hl2 : ([Value.bool b, .slice p n c]).length = 2 := rfl
    rw [hl2] at hs
    simp [storeVar, sizeOf, typeInfo, hq, hz, hv, hn, hs]
theorem wp_stB2 {C : Array Value} {b : Bool} {p : Option Addr} {n c : Nat} {K : Act → World → Prop} {Q : Exit → Act → World → Prop} {o : Oper} (x y : Operand) (ho : o.op = .store 61 x y) (hx : a.eval x = .pointer (some ⟨g, off, none⟩)) (hy : a.eval y = .agg #[.bool b, .slice p n c]) (hB : Blk w g 61 C) (hl : off + 2 ≤ C.size)
    (h : K (a.put o.dst undef) (w.setRow g (splB C off [.bool b, .slice p n c]))) : o.wp Tryz.prog a w K Q := by
  unfold Oper.wp execOp
  simp only [ho, hx, hy, Instr.storeAt, Instr.sureAddr, Sem.run_bind, Sem.run_pure, Result.andThen_ok, run_svB hB hl]
  exact h
end
theorem splB_size {C : Array Value} {off : Nat} {x y : Value} (hl : off + 2 ≤ C.size) : (splB C off [x, y]).size = C.size := by
  unfold splB; simp; omega
theorem splB_get {C : Array Value} {off k : Nat} {x y : Value} (hl : off + 2 ≤ C.size) : (splB C off [x, y])[k]? = if k = off then some x else if k = off + 1 then some y else C[k]? := by
  unfold splB
  have h1 : (C.toList.take off).length = off := by rw [List.length_take, Array.length_toList]; omega
  rw [List.getElem?_toArray]
  rcases Nat.lt_trichotomy k off with h | h | h
  · rw [if_neg (by omega), if_neg (by omega), List.append_assoc, List.getElem?_append_left (by omega), List.getElem?_take_of_lt h, Array.getElem?_toList]
  · subst h
    rw [if_pos rfl, List.append_assoc, List.getElem?_append_right (by omega), h1, Nat.sub_self]
    rfl
  · rw [if_neg (by omega), List.append_assoc, List.getElem?_append_right (by omega), h1]
    by_cases h2 : k = off + 1
    · rw [if_pos h2, h2, show off + 1 - off = 1 by omega]; rfl
    · obtain ⟨d, rfl⟩ : ∃ d, k = off + 2 + d := ⟨k - (off + 2), by omega⟩
      rw [if_neg h2, show off + 2 + d - off = d + 2 by omega]
      show (C.toList.drop (off + 2))[d]? = _
      rw [List.getElem?_drop, Array.getElem?_toList]
/-- One of the own numbers is another one. -/
theorem OwnB.set {w : World} {base g cap n : Nat} {C : Array Value} {l : List Int} {b : Bool} {p : Option Addr} {m c : Nat} {z : Int} (h : OwnB w base (.slice (some ⟨g, 0, none⟩) n cap) l) (hB : Blk w g 61 C) {i : Nat} (hi : i < l.length) (hb : Big w (.agg #[.bool b, .slice p m c]) z) :
    OwnB (w.setRow g (splB C (i * 2) [.bool b, .slice p m c])) base (.slice (some ⟨g, 0, none⟩) n cap) (l.set i z) ∧ i * 2 + 2 ≤ C.size := by
  obtain ⟨g', cap', C', hv, hbs, hB', hc, hm, hs, hE⟩ := h.open (by omega)
  injection hv with e1 e2 e3
  injection e1 with e1
  injection e1 with e1
  subst e1 e2 e3
  have hCC : C' = C := by
    unfold Blk at hB hB'
    rw [hB] at hB'
    simp at hB'
    exact hB'.symm
  subst hCC
  have hl : i * 2 + 2 ≤ C'.size := by omega
  refine ⟨⟨(splB C' (i * 2) [.bool b, .slice p m c]).toList.take (l.length * 2), ⟨by have e := splB_size (x := .bool b) (y := .slice p m c) hl; have e2 : (splB C' (i * 2) [.bool b, .slice p m c]).toList.length = C'.size := (by rw [← e]; simp); rw [List.length_take, e2, List.length_set]; omega, .inr ⟨g, cap, _, by rw [List.length_set], hbs, hB.setRow _, by rw [List.length_set]; exact hc, hm, by rw [splB_size hl]; exact hs, by rw [List.length_set]⟩⟩, fun k hk => ?_⟩, hl⟩
  rw [List.length_set] at hk
  have hz : zth (l.set i z) k = if i = k then z else zth l k := by
    rw [zth_get (by rw [List.length_set]; exact hk), List.getElem_set]
    split
    · rfl
    · rw [zth_get hk]
  have hget : ∀ q, q < l.length * 2 → ((splB C' (i * 2) [.bool b, .slice p m c]).toList.take (l.length * 2))[q]? = if q = i * 2 then some (.bool b) else if q = i * 2 + 1 then some (.slice p m c) else C'[q]? := fun q hq => by
    rw [List.getElem?_take_of_lt hq, Array.getElem?_toList, splB_get hl]
  rw [hz]
  by_cases e : i = k
  · subst e
    rw [if_pos rfl]
    exact ⟨b, p, m, c, by dsimp only; rw [hget _ (by omega), if_pos rfl], by dsimp only; rw [hget _ (by omega), if_neg (by omega), if_pos rfl], hb.setRow hB⟩
  · rw [if_neg e]
    obtain ⟨b', a', n', c', h1, h2, h3⟩ := hE k hk
    exact ⟨b', a', n', c', by dsimp only; rw [hget _ (by omega), if_neg (by omega), if_neg (by omega)]; exact h1, by dsimp only; rw [hget _ (by omega), if_neg (by omega), if_neg (by omega)]; exact h2, h3.setRow hB⟩
/-- A list of noughts. -/
def flat2 (n : Nat) : List Value := (List.replicate n [Value.bool false, .slice none 0 0]).flatten
theorem flat2_len (n : Nat) : (flat2 n).length = n * 2 := by unfold flat2; simp [List.length_flatten]
theorem flat2_get : ∀ n i, i < n * 2 → (flat2 n)[i]? = some (if i % 2 = 0 then .bool false else .slice none 0 0) := by
  intro n
  induction n with
  | zero => intro i h; omega
  | succ n ih =>
    intro i h
    unfold flat2
    rw [List.replicate_succ, List.flatten_cons]
    rcases i with _ | _ | i
    · rfl
    · rfl
    · show (flat2 n)[i]? = _
      rw [ih i (by omega), show (i + 1 + 1) % 2 = i % 2 by omega]
theorem made_zeros (n : Nat) : madeCells (Value.agg #[.bool false, .slice none 0 0]).cells (n * 2) = (flat2 n).toArray := by
  apply Array.ext'
  apply List.ext_getElem?
  intro i
  by_cases hi : i < n * 2
  · rw [flat2_get n i hi]
    rcases Nat.mod_two_eq_zero_or_one i with h | h <;> simp [madeCells, Value.cells, h, hi]
  · rw [List.getElem?_eq_none (by simp [madeCells]; omega), List.getElem?_eq_none (by show (flat2 n).length ≤ i; rw [flat2_len]; omega)]
theorem mkBs {ops : Array Oper} {rest : List Oper} {Q : Exit → Act → World → Prop} {a : Act} {w : World} {d : Option Tmp} {l : Tmp} {ty : TypeId} {pos : String} {af : Array Edge} {n : Nat} (hl : a.eval (.tmp l) = .int .i64 (n : Nat)) (hn : n < 1000000)
    (h : ∀ w', OwnB w' w.heap.size (.slice (some ⟨w.heap.size, 0, none⟩) n n) (List.replicate n 0) → Up w w' → wpList Tryz.prog ops Q rest (a.put d (.slice (some ⟨w.heap.size, 0, none⟩) n n)) w') :
    wpList Tryz.prog ops Q ({ dst := d, op := .makeSlice 44 (.tmp l) (.tmp l), type := ty, pos := pos, after := af, guard := none } :: rest) a w := by
  refine wpList_plain rfl fun _ hK => ?_
  have hi := infoBs
  cases hq : Tryz.prog.info? 61 with
  | none => rw [hq] at hi; simp at hi
  | some i =>
    rw [hq] at hi
    simp only [Option.map_some, Option.some.injEq, Prod.mk.injEq] at hi
    have hr := run_make (P := Tryz.prog) (w := w) 44 61 i (.agg #[.bool false, .slice none 0 0]) undBs hq hi.1 .i64 .i64 (n : Int) (n : Int) (by omega) (by omega) (by rw [hi.2.2]; omega) (by omega)
    rw [hi.2.1, Int.toNat_natCast, made_zeros] at hr
    unfold Oper.wp execOp
    simp only [hl, Sem.run_bind, Sem.run_pure, Result.andThen_ok, hr]
    refine hK _ _ (h _ ⟨flat2 n, ⟨by rw [flat2_len, List.length_replicate], .inr ⟨w.heap.size, n, _, by rw [List.length_replicate], Nat.le_refl _, heap_alloc_new w _, by rw [List.length_replicate]; exact Nat.le_refl _, by unfold maxLen; omega, flat2_len n, ?_⟩⟩, fun k hk => ?_⟩ (Up.alloc _ _))
    · rw [List.length_replicate]
      exact List.take_of_length_le (by rw [flat2_len]; exact Nat.le_refl _)
    · rw [List.length_replicate] at hk
      have e : zth (List.replicate n (0 : Int)) k = 0 := by rw [zth_get (by rw [List.length_replicate]; exact hk)]; simp
      rw [e]
      exact ⟨false, none, 0, 0, by dsimp only; rw [flat2_get _ _ (by omega), if_pos (by omega)], by dsimp only; rw [flat2_get _ _ (by omega), if_neg (by omega)], big_zero _⟩
/-- What is known of a number stays when a list of such numbers grows. -/
theorem Big.grown {w w' : World} {row : Option Nat} {v : Value} {z : Int} (h : Big w v z) (hg : w.grownBy w' row) (hr : ∀ k, row = some k → ∃ C, Blk w k 61 C) : Big w' v z := by
  obtain ⟨a, c, h1, a2, c2, h2, h3, h4⟩ := h
  refine ⟨a, c, h1, a2, c2, h2, h3, fun h0 => ?_⟩
  obtain ⟨b, E, h5, h6, h7⟩ := h4 h0
  refine ⟨b, E, h5, ?_, h7⟩
  unfold Blk
  rw [hg.block b h6.lt ?_]
  · exact h6
  · intro e
    obtain ⟨C, hC⟩ := hr b e.symm
    unfold Blk at hC h6
    rw [hC] at h6
    simp at h6
end Go.Proofs.YtdcpoamjmoceiaaGreatDoor
/-
  Symmetric matrices by the reference: Diag.
-/
namespace Go.Proofs.YtdcpoamjmoceiaaGreatDoor
open Go Go.RowKit
set_option maxRecDepth 100000
set_option maxRecDepth 100000

/-- How far the reference's loops are: its own copy in the box. -/
def RInv (w : World) (base bx rs : Nat) (n : Int) (sA : Value) (new old : List Int) (p : Nat) (wr : World) : Prop :=
  OwnI wr base sA (mixed new old p) ∧ (∀ q, q < p → fit (zth new q) = true) ∧ Blk wr bx 24 #[.int .i64 n, sA] ∧ Blk wr rs 24 #[.int .i64 0, .slice none 0 0] ∧ Up w wr
theorem In64.mixed {new old : List Int} (hl : new.length = old.length) (h : In64 old) {p : Nat} (hf : ∀ q, q < p → fit (zth new q) = true) : In64 (mixed new old p) := by
  intro i hi
  rw [mixed_len hl] at hi
  rw [mixed_get hl _ hi]
  split
  · rename_i h1; exact fit_i64 (hf i h1)
  · exact h i hi
theorem OwnI.sm {w : World} {base : Nat} {s : Value} {l : List Int} {N : Int} (h : OwnI w base s l) (hN : I64 N) (hl : In64 l) (hn : l.length ≤ 1000) : Sm w (.agg #[.int .i64 N, s]) N l := ⟨s, rfl, h.vw, hN, hl, hn⟩
set_option maxHeartbeats 8000000 in
theorem rdiag_any {v : Value} {N : Int} {l : List Int} (x : Int) {w : World} (hm : Sm w v N l) (hx : I64 x) :
    Calls Tryz.prog 16 #[v, .int .i64 x] w (RSymPost w (diN N l x) (diR N l x) (diC N l x)) := by
  have HR := hid (fun w' (hu : Up w w') => rright_any (hm.up hu))
  have HCP := hid (fun w' (hu : Up w w') => copy_any (hm.up hu))
  obtain ⟨s, rfl, hV, hN, hl, hlen⟩ := hm
  obtain ⟨p, cap, rfl, hcap, hc⟩ := hV
  obtain ⟨W0, hW0⟩ : ∃ W0, (w.alloc (.cells #[.int .i64 N, .slice p l.length cap] 24)).alloc (.cells #[.int .i64 0, .slice none 0 0] 24) = W0 := ⟨_, rfl⟩
  have hB : Blk W0 w.heap.size 24 #[.int .i64 N, .slice p l.length cap] := by rw [← hW0]; exact (Blk.new _ _ rfl).old _
  have hQ : Blk W0 (w.heap.size + 1) 24 #[.int .i64 0, .slice none 0 0] := by rw [← hW0]; exact Blk.new _ _ (by simp)
  have hU : Up w W0 := by rw [← hW0]; exact (Up.alloc _ _).trans (Up.alloc _ _)
  cases hR : rt N l with
  | false =>
    have e : diC N l x = 23 := by unfold diC; rw [hR]; rfl
    have e2 : diR N l x = [] := by unfold diR; rw [e]; rfl
    have e3 : diN N l x = 0 := by unfold diN; rw [e]; rfl
    rw [e, e2, e3]
    rw [hR] at HR
    clear e e2 e3 hR hc hl hN
    go_enter Tryz.func16, Tryz.ntmps16
    go_wp2_with (first
      | ((with_reducible apply ldM_P); exact rfl; exact rfl; exact hB; exact rfl)
      | (go_at_call 26; (with_reducible refine (HR.out _ hU).mono ?_); rintro r w1 ⟨rfl, hu1⟩; replace hQ := hQ.up hu1)
      | ((with_reducible apply stM_P); exact rfl; exact rfl; exact hQ; exact rfl; exact rfl; exact two2 _ _ _ _ _))
    exact bodyPost_ret (resMs (u := .int .i64 23) rfl rfl rfl (hQ.setRow _) rfl) rfl (RSymPost.err 23 (hU.trans hu1) (by omega))
  | true =>
    rw [hR] at HR
    obtain ⟨n0, n8, htri, _⟩ := rt_spec hR
    obtain ⟨n, rfl⟩ : ∃ n : Nat, N = (n : Int) := ⟨N.toNat, by omega⟩
    rw [tri_nat] at htri
    have n8' : n ≤ 8 := by omega
    have hln : l.length = triN n := by omega
    have eN : ((n : Int)).toNat = n := by omega
    obtain ⟨L', hL'⟩ : ∃ L', diL n l x = L' := ⟨_, rfl⟩
    have HlL : Hid (L'.length = l.length) := hid (by rw [← hL', diL_len])
    have Hat : Hid (∀ i, i < n → zth L' (pos n i i) = zth l (pos n i i) + x) := hid (fun i hi => by rw [← hL', diL_at x n8' hln (Nat.le_refl _) hi, if_pos rfl])
    have Hrow : Hid (∀ i q, i < n → pos n i i + 1 ≤ q → q < pos n (i + 1) (i + 1) → zth L' q = zth l q) := hid (fun i q hi h1 h2 => by rw [← hL']; exact diL_row x n8' hln hi h1 h2)
    have Hfl := hid (rt_spec hR).2.2.2
    obtain ⟨hc9, hd9⟩ : (∀ k, k < L'.length → fit (zth L' k) = false → RSymPost w (diN n l x) (diR n l x) (diC n l x) = RSymPost w 0 [] 21) ∧
        ((∀ k, k < L'.length → fit (zth L' k) = true) → RSymPost w (diN n l x) (diR n l x) (diC n l x) = RSymPost w n L' 0) := by
      refine ⟨fun k hk hf => ?_, fun hf => ?_⟩
      · have e : diC n l x = 21 := by unfold diC; rw [hR, eN, hL', all_no hk hf]; rfl
        unfold diN diR; rw [e]; rfl
      · have e : diC n l x = 0 := by unfold diC; rw [hR, eN, hL', all_yes hf]; rfl
        unfold diN diR; rw [e, if_pos rfl, if_pos rfl, eN, hL']
    have Hbad := hid hc9
    have Hgood := hid hd9
    obtain ⟨PP, hPP⟩ : ∃ PP, RSymPost w (diN n l x) (diR n l x) (diC n l x) = PP := ⟨_, rfl⟩
    rw [hPP] at Hbad Hgood ⊢
    have HN64 := hid hN
    have HLn := hid hln
    have Hl64 := hid hl
    have hx64 := hid hx
    have HOx := hid (fun w => of_big x hx.1 hx.2 w)
    clear hPP hc9 hd9 hL' hc hl hx hR htri hln hN eN hcap n0 n8
    go_enter Tryz.func16, Tryz.ntmps16
    go_wp2_with (first
      | ((with_reducible apply ldM_P); exact rfl; exact rfl; exact hB; exact rfl)
      | (go_at_call 26; (with_reducible refine (HR.out _ hU).mono ?_); rintro r w1 ⟨rfl, hu1⟩; replace hQ := hQ.up hu1; replace hB := hB.up hu1; replace hU := hU.trans hu1)
      | (go_at_call 23; (with_reducible refine (HCP.out _ hU).mono ?_); rintro r w2 ⟨sA, rfl, hu2, hO⟩; have hlt := hB.lt; have hlt2 := hQ.lt; replace hQ := hQ.up hu2; replace hB := hB.up hu2; replace hU := hU.trans hu2; obtain ⟨pA, nA, cA, rfl⟩ := OwnI.slice hO; have hO2 := OwnI.setRow (D := #[.int .i64 (n : Int), .slice pA nA cA]) hO hB; have hB2 := hB.setRow #[.int .i64 (n : Int), .slice pA nA cA]; have hQ2 := Blk.row_other hQ #[.int .i64 (n : Int), .slice pA nA cA] (show w.heap.size + 1 ≠ w.heap.size by omega); have hU2 := below_setRow hU (Nat.le_refl _) #[.int .i64 (n : Int), .slice pA nA cA])
      | ((with_reducible apply stM_P); exact rfl; exact rfl; exact hB; exact rfl; exact rfl; exact two2 _ _ _ _ _))
    obtain ⟨base, hbase⟩ : ∃ b, w1.heap.size = b := ⟨_, rfl⟩
    have hbs : w.heap.size + 1 < base := by omega
    rw [hbase] at hO2
    clear hbase hlt hlt2 hu1 hu2 hO hB hQ hU
    go_loopg [6] n (fun g ti wr => ∃ i : Nat, i ≤ n ∧ n - i ≤ g ∧ ti = .int .i64 (i : Nat) ∧ RInv w base w.heap.size (w.heap.size + 1) n (.slice pA nA cA) L' l (pos n i i) wr)
    case atStart => exact ⟨0, Nat.zero_le _, by omega, rfl, by rw [pos_zero, mixed_zero]; exact hO2, fun q hq => by rw [pos_zero] at hq; omega, hB2, hQ2, hU2⟩
    case round =>
      clear hB2 hQ2 hU2 hO2
      obtain ⟨i, hi, hig, rfl, hO, hfits, hB, hQ, hU⟩ := hrel
      have hc0 := hB.cell 0 rfl
      by_cases hlt : i < n
      · have e1 : IntKind.i64.wrap ((i : Int) + 1) = (i : Int) + 1 := IntWalk.i64_in _ (by omega)
        have hkl : pos n i i < l.length := by rw [HLn.out]; exact pos_lt (Nat.le_refl _) hlt
        have hM64 := In64.mixed HlL.out Hl64.out hfits
        have HSm := hid (hO.sm HN64.out hM64 (by rw [mixed_len HlL.out]; exact hlen))
        have HAt := hid (fun w' (hu : Up wr w') => rat_ent2 (HSm.out.up hu) n8' (by rw [mixed_len HlL.out]; exact HLn.out) (Nat.le_refl i) hlt)
        have hat := Hat.out i hlt
        have HX := hid (fun w => (pos_idx (Nat.le_refl i) hlt) ▸ rat_any (n : Int) (i : Int) (i : Int) (by omega) (by omega) (by omega) (by omega) (by omega) w)
        have Hro := hid (fun q => Hrow.out i q hlt)
        have HP := hid (pos_row hlt)
        have HFit := hid hfits
        have HPS : Hid (pos n i i + 1 ≤ pos n (i + 1) (i + 1) ∧ pos n (i + 1) (i + 1) ≤ l.length) := hid (by rw [HLn.out]; have := pos_row hlt; unfold pos at *; omega)
        obtain ⟨k, hk⟩ : ∃ k, pos n i i = k := ⟨_, rfl⟩
        have HK := hid hk
        rw [hk] at hkl HAt hat hO HX Hro HFit HPS
        obtain ⟨g, cp, C, hv, hbg, -⟩ := hO.open (by rw [mixed_len HlL.out]; omega)
        injection hv with x1 x2 x3
        rw [mixed_len HlL.out] at x2
        subst x1 x2 x3
        have hmx : zth (mixed L' l k) k = zth l k := mixed_at HlL.out hkl
        rw [hmx] at HAt
        have hak := Hl64.out k hkl
        have HOk := hid (fun w => of_big (zth l k) hak.1 hak.2 w)
        have n1 := nl_bp (by omega) (i64_bp hak)
        have n2 := nl_bp (by omega) (i64_bp hx64.out)
        have n3 : nl (zth l k + x).natAbs < 50000 := nl_bp (k := 2) (by omega) (by
          have b1 := i64_bp hak
          have b2 := i64_bp hx64.out
          have b3 : bp 2 = bp 1 * 18446744073709551616 := bp_succ 1
          have b4 := bp_pos 1
          omega)
        rw [← hat] at n3
        have HS9 := hid (mixed_set HlL.out hkl)
        have HML := hid (mixed_len HlL.out k)
        have HAD := hid (fun (va vb : Value) (w : World) (ha : Big w va (zth l k)) (hb : Big w vb x) => hat ▸ add_big ha hb n1 n2)
        clear hat n1 n2 hak hk hM64 hfits
        obtain ⟨z9, hz9'⟩ : ∃ z, zth L' k = z := ⟨_, rfl⟩
        have HZ9 := hid hz9'
        rw [hz9'] at HS9 n3 HAD
        clear hz9' hmx
        generalize zth l k = ak at *
        obtain ⟨M, hM9⟩ : ∃ M, mixed L' l k = M := ⟨_, rfl⟩
        rw [hM9] at hO HS9 HML
        clear hM9 HSm
        have hkM : k < M.length := by rw [HML.out]; exact hkl
        have HN3 := hid n3
        clear n3
        cases hf : fit z9 with
        | false =>
          have HF9 := hid (fun (va : Value) (w : World) (hb : Big w va z9) => hf ▸ rfits_any hb HN3.out)
          have Hf := hid hf
          clear hf
          go_wp2_with (first
            | ((with_reducible apply ldM_P); exact rfl; exact rfl; exact hB; exact rfl)
            | ((with_reducible apply stB_P); exact rfl; exact rfl; (focus (repeat (first | assumption | ((with_reducible apply blk_new); (focus (first | rfl | (simp; done)))) | (with_reducible apply blk_alloc) | (with_reducible apply blk_drew) | (with_reducible apply blk_drewN) | ((with_reducible apply blk_up); assumption) | (with_reducible apply blk_same) | ((with_reducible apply blk_else); (focus (first | (simp; done) | (simp; omega) | omega)))))); exact rfl; exact rfl; exact one2 _ _ _ _)
            | ((with_reducible apply ldB_P); exact rfl; exact rfl; (focus (repeat (first | assumption | ((with_reducible apply blk_new); (focus (first | rfl | (simp; done)))) | (with_reducible apply blk_alloc) | (with_reducible apply blk_drew) | (with_reducible apply blk_drewN) | ((with_reducible apply blk_up); assumption) | (with_reducible apply blk_same) | ((with_reducible apply blk_else); (focus (first | (simp; done) | (simp; omega) | omega)))))); exact rfl)
            | (go_at_call 35; (with_reducible refine (HAt.out _ (Up.refl _)).mono ?_); rintro r w3 ⟨rfl, hu3⟩)
            | (go_at_call 52; first
                | ((with_reducible refine (HOk.out _).mono ?_); rintro r w4 ⟨hu4, u4, rfl, hb4⟩)
                | ((with_reducible refine (HOx.out _).mono ?_); rintro r w5 ⟨hu5, u5, rfl, hb5⟩))
            | (go_at_call 51; (with_reducible refine (HAD.out _ _ _ (hb4.up hu5) hb5).mono ?_); rintro r w6 ⟨hu6, u6, rfl, hb6⟩; obtain ⟨bb, ba, bn, bc, rfl⟩ := hb6.shape; have hu36 := ((hu3.trans hu4).trans hu5).trans hu6; have hBg := (Blk.new (w := w6) (b := w6.heap.size) 61 #[.bool false, .slice none 0 0] rfl).setRow #[.bool bb, .slice ba bn bc]; have hbg6 : Big _ _ z9 := big_set (D := #[.bool bb, .slice ba bn bc]) (Blk.new (w := w6) (b := w6.heap.size) 61 #[.bool false, .slice none 0 0] rfl) (big_alloc hb6); have hu6X := hu36.trans (below_setRow (Up.alloc w6 (.cells #[.bool false, .slice none 0 0] 61)) (Nat.le_refl _) #[.bool bb, .slice ba bn bc]))
            | (go_at_call 53; (with_reducible refine (HF9.out _ _ hbg6).mono ?_); rintro r w7 ⟨rfl, hu7⟩; replace hQ := (hQ.up hu6X).up hu7)
            | ((with_reducible apply stM_P); exact rfl; exact rfl; exact hQ; exact rfl; exact rfl; exact two2 _ _ _ _ _))
          rw [Hbad.out k (by rw [HlL.out]; exact hkl) (by rw [HZ9.out]; exact Hf.out)]
          exact bodyPost_ret (resMs (u := .int .i64 21) rfl rfl rfl (hQ.setRow _) rfl) rfl (RSymPost.err 21 ((hU.trans hu6X).trans hu7) (by omega))
        | true =>
          have HF9 := hid (fun (va : Value) (w : World) (hb : Big w va z9) => hf ▸ rfits_any hb HN3.out)
          have Hf := hid hf
          have HIn := hid (fun (va : Value) (w : World) (hb : Big w va z9) => (i64V_yes (fit_i64 hf)) ▸ int64_big hb HN3.out)
          clear hf
          go_wp2_with (first
            | ((with_reducible apply ldM_P); exact rfl; exact rfl; exact hB; exact rfl)
            | ((with_reducible apply stB_P); exact rfl; exact rfl; (focus (repeat (first | assumption | ((with_reducible apply blk_new); (focus (first | rfl | (simp; done)))) | (with_reducible apply blk_alloc) | (with_reducible apply blk_drew) | (with_reducible apply blk_drewN) | ((with_reducible apply blk_up); assumption) | (with_reducible apply blk_same) | ((with_reducible apply blk_else); (focus (first | (simp; done) | (simp; omega) | omega)))))); exact rfl; exact rfl; exact one2 _ _ _ _)
            | ((with_reducible apply ldB_P); exact rfl; exact rfl; (focus (repeat (first | assumption | ((with_reducible apply blk_new); (focus (first | rfl | (simp; done)))) | (with_reducible apply blk_alloc) | (with_reducible apply blk_drew) | (with_reducible apply blk_drewN) | ((with_reducible apply blk_up); assumption) | (with_reducible apply blk_same) | ((with_reducible apply blk_else); (focus (first | (simp; done) | (simp; omega) | omega)))))); exact rfl)
            | (go_at_call 35; (with_reducible refine (HAt.out _ (Up.refl _)).mono ?_); rintro r w3 ⟨rfl, hu3⟩)
            | (go_at_call 52; first
                | ((with_reducible refine (HOk.out _).mono ?_); rintro r w4 ⟨hu4, u4, rfl, hb4⟩)
                | ((with_reducible refine (HOx.out _).mono ?_); rintro r w5 ⟨hu5, u5, rfl, hb5⟩))
            | (go_at_call 51; (with_reducible refine (HAD.out _ _ _ (hb4.up hu5) hb5).mono ?_); rintro r w6 ⟨hu6, u6, rfl, hb6⟩; obtain ⟨bb, ba, bn, bc, rfl⟩ := hb6.shape; have hu36 := ((hu3.trans hu4).trans hu5).trans hu6; have hBg := (Blk.new (w := w6) (b := w6.heap.size) 61 #[.bool false, .slice none 0 0] rfl).setRow #[.bool bb, .slice ba bn bc]; have hbg6 : Big _ _ z9 := big_set (D := #[.bool bb, .slice ba bn bc]) (Blk.new (w := w6) (b := w6.heap.size) 61 #[.bool false, .slice none 0 0] rfl) (big_alloc hb6); have hu6X := hu36.trans (below_setRow (Up.alloc w6 (.cells #[.bool false, .slice none 0 0] 61)) (Nat.le_refl _) #[.bool bb, .slice ba bn bc]))
            | (go_at_call 53; (with_reducible refine (HF9.out _ _ hbg6).mono ?_); rintro r w7 ⟨rfl, hu7⟩; replace hQ := (hQ.up hu6X).up hu7; replace hB := (hB.up hu6X).up hu7; replace hO := (hO.up hu6X).up hu7; replace hbg6 := hbg6.up hu7; replace hBg := hBg.up hu7; replace hU := (hU.trans hu6X).trans hu7))
          have hq0 := hB.cell 0 rfl
          have hq1 := hB.cell 1 rfl
          obtain ⟨b7, hb7⟩ : ∃ b, w6.heap.size = b := ⟨_, rfl⟩
          rw [hb7] at hBg
          rw [hb7]
          clear hb7 hu36 hu6X hu3 hu4 hu5 hu6 hb4 hb5 hb6 hc0
          refine wp_region_upS (S := (fun wq => Blk wq w.heap.size 24 #[.int .i64 (n : Int), .slice (some ⟨g, 0, none⟩) l.length cA] ∧ wq.cell? ⟨w.heap.size, 0, none⟩ = some (.int .i64 (n : Int)) ∧ wq.cell? ⟨w.heap.size, 1, none⟩ = some (.slice (some ⟨g, 0, none⟩) l.length cA) ∧ Blk wq b7 61 #[.bool bb, .slice ba bn bc] ∧ Big wq (.agg #[.bool bb, .slice ba bn bc]) z9 ∧ OwnI wq base (.slice (some ⟨g, 0, none⟩) l.length cA) M ∧ Blk wq (w.heap.size + 1) 24 #[.int .i64 0, .slice none 0 0] ∧ Below w.heap.size w wq)) (req := (fun j => j != 13)) (by kernel_rfl) (fun _ _ h hu => ⟨(h.1).up hu, hu.cell (h.2.1), hu.cell (h.2.2.1), (h.2.2.2.1).up hu, (h.2.2.2.2.1).up hu, (h.2.2.2.2.2.1).up hu, (h.2.2.2.2.2.2.1).up hu, below_up (h.2.2.2.2.2.2.2) hu⟩) ⟨(by (repeat (first | assumption | ((with_reducible apply blk_new); (focus (first | rfl | (simp; done)))) | (with_reducible apply blk_alloc) | (with_reducible apply blk_drew) | (with_reducible apply blk_drewN) | ((with_reducible apply blk_up); assumption) | (with_reducible apply blk_same) | ((with_reducible apply blk_else); (focus (first | (simp; done) | (simp; omega) | omega)))))), (by first | assumption | (apply Blk.cell; (focus (repeat (first | assumption | ((with_reducible apply blk_new); (focus (first | rfl | (simp; done)))) | (with_reducible apply blk_alloc) | (with_reducible apply blk_drew) | (with_reducible apply blk_drewN) | ((with_reducible apply blk_up); assumption) | (with_reducible apply blk_same) | ((with_reducible apply blk_else); (focus (first | (simp; done) | (simp; omega) | omega)))))); exact rfl)), (by first | assumption | (apply Blk.cell; (focus (repeat (first | assumption | ((with_reducible apply blk_new); (focus (first | rfl | (simp; done)))) | (with_reducible apply blk_alloc) | (with_reducible apply blk_drew) | (with_reducible apply blk_drewN) | ((with_reducible apply blk_up); assumption) | (with_reducible apply blk_same) | ((with_reducible apply blk_else); (focus (first | (simp; done) | (simp; omega) | omega)))))); exact rfl)), (by (repeat (first | assumption | ((with_reducible apply blk_new); (focus (first | rfl | (simp; done)))) | (with_reducible apply blk_alloc) | (with_reducible apply blk_drew) | (with_reducible apply blk_drewN) | ((with_reducible apply blk_up); assumption) | (with_reducible apply blk_same) | ((with_reducible apply blk_else); (focus (first | (simp; done) | (simp; omega) | omega)))))), (by (repeat (first | assumption | ((with_reducible apply big_set); (focus (repeat (first | assumption | ((with_reducible apply blk_new); (focus (first | rfl | (simp; done)))) | (with_reducible apply blk_alloc) | (with_reducible apply blk_drew) | (with_reducible apply blk_drewN) | ((with_reducible apply blk_up); assumption) | (with_reducible apply blk_same) | ((with_reducible apply blk_else); (focus (first | (simp; done) | (simp; omega) | omega))))))) | (with_reducible apply big_alloc) | ((with_reducible apply big_up); assumption))); done), (by assumption), (by (repeat (first | assumption | ((with_reducible apply blk_new); (focus (first | rfl | (simp; done)))) | (with_reducible apply blk_alloc) | (with_reducible apply blk_drew) | (with_reducible apply blk_drewN) | ((with_reducible apply blk_up); assumption) | (with_reducible apply blk_same) | ((with_reducible apply blk_else); (focus (first | (simp; done) | (simp; omega) | omega)))))), (by repeat (first | assumption | (with_reducible apply Up.of) | (with_reducible exact Below.refl _ _) | (with_reducible exact Up.refl _) | ((with_reducible apply bl_setRow); (focus (first | exact Nat.le_refl _ | (simp; done) | (simp; omega) | omega))) | (with_reducible apply below_drewN) | (with_reducible apply Below.drew) | ((with_reducible apply bl_alloc); (focus (first | exact Nat.le_refl _ | (simp; done) | (simp; omega) | omega))) | ((with_reducible apply bl_setCell); (focus (first | exact Nat.le_refl _ | (simp; done) | (simp; omega) | omega))) | ((with_reducible apply up_tr); assumption)))⟩ (fun wS hSS => ?_)
          have ⟨hS1, hS2, hS3, hS4, hS5, hS6, hS7, hSB⟩ := hSS
          refine wpAnyU_pure (i := 0) (d := (some 33)) (v := ?_) rfl rfl (by kernel_rfl) (fun _ _ _ h => h) (fun _ _ h hu => ⟨(h.1).up hu, hu.cell (h.2.1), hu.cell (h.2.2.1), (h.2.2.2.1).up hu, (h.2.2.2.2.1).up hu, (h.2.2.2.2.2.1).up hu, (h.2.2.2.2.2.2.1).up hu, below_up (h.2.2.2.2.2.2.2) hu⟩) (Or.inl ⟨by rfl, fun w' _ => yu_value ?_⟩) ?_
          rotate_left
          · (go_simp; (try exact rfl))
          try simp only [Act.put, List.setIfInBounds_toArray, List.set_cons_zero, List.set_cons_succ]
          refine wpAnyU_take (i := 1) (d := (some 34)) (v := ?_) rfl rfl (by kernel_rfl) (fun _ _ _ h => h) (fun _ _ h hu => ⟨(h.1).up hu, hu.cell (h.2.1), hu.cell (h.2.2.1), (h.2.2.2.1).up hu, (h.2.2.2.2.1).up hu, (h.2.2.2.2.2.1).up hu, (h.2.2.2.2.2.2.1).up hu, below_up (h.2.2.2.2.2.2.2) hu⟩) hSS (Or.inl ⟨by rfl, fun w' hSw => yu_value ?_⟩) ?_
          rotate_left
          · ((try dsimp only at hSw); (try obtain ⟨_, _, _, _, _, _, _, _⟩ := hSw); go_simp; (try exact rfl))
          try simp only [Act.put, List.setIfInBounds_toArray, List.set_cons_zero, List.set_cons_succ]
          refine wpAnyU_pure (i := 2) (d := (some 35)) (v := ?_) rfl rfl (by kernel_rfl) (fun _ _ _ h => h) (fun _ _ h hu => ⟨(h.1).up hu, hu.cell (h.2.1), hu.cell (h.2.2.1), (h.2.2.2.1).up hu, (h.2.2.2.2.1).up hu, (h.2.2.2.2.2.1).up hu, (h.2.2.2.2.2.2.1).up hu, below_up (h.2.2.2.2.2.2.2) hu⟩) (Or.inl ⟨by rfl, fun w' _ => yu_value ?_⟩) ?_
          rotate_left
          · (go_simp; (try exact rfl))
          try simp only [Act.put, List.setIfInBounds_toArray, List.set_cons_zero, List.set_cons_succ]
          refine wpAnyU_take (i := 3) (d := (some 36)) (v := ?_) rfl rfl (by kernel_rfl) (fun _ _ _ h => h) (fun _ _ h hu => ⟨(h.1).up hu, hu.cell (h.2.1), hu.cell (h.2.2.1), (h.2.2.2.1).up hu, (h.2.2.2.2.1).up hu, (h.2.2.2.2.2.1).up hu, (h.2.2.2.2.2.2.1).up hu, below_up (h.2.2.2.2.2.2.2) hu⟩) hSS (Or.inl ⟨by rfl, fun w' hSw => yu_value ?_⟩) ?_
          rotate_left
          · ((try dsimp only at hSw); (try obtain ⟨_, _, _, _, _, _, _, _⟩ := hSw); go_simp; (try exact rfl))
          try simp only [Act.put, List.setIfInBounds_toArray, List.set_cons_zero, List.set_cons_succ]
          refine wpAnyU_pure (i := 4) (d := (some 37)) (v := ?_) rfl rfl (by kernel_rfl) (fun _ _ _ h => h) (fun _ _ h hu => ⟨(h.1).up hu, hu.cell (h.2.1), hu.cell (h.2.2.1), (h.2.2.2.1).up hu, (h.2.2.2.2.1).up hu, (h.2.2.2.2.2.1).up hu, (h.2.2.2.2.2.2.1).up hu, below_up (h.2.2.2.2.2.2.2) hu⟩) (Or.inl ⟨by rfl, fun w' _ => yu_value ?_⟩) ?_
          rotate_left
          · (go_simp; (try exact rfl))
          try simp only [Act.put, List.setIfInBounds_toArray, List.set_cons_zero, List.set_cons_succ]
          refine wpAnyU_pure (i := 5) (d := (some 38)) (v := ?_) rfl rfl (by kernel_rfl) (fun _ _ _ h => h) (fun _ _ h hu => ⟨(h.1).up hu, hu.cell (h.2.1), hu.cell (h.2.2.1), (h.2.2.2.1).up hu, (h.2.2.2.2.1).up hu, (h.2.2.2.2.2.1).up hu, (h.2.2.2.2.2.2.1).up hu, below_up (h.2.2.2.2.2.2.2) hu⟩) (Or.inl ⟨by rfl, fun w' _ => yu_value ?_⟩) ?_
          rotate_left
          · (go_simp; (try exact rfl))
          try simp only [Act.put, List.setIfInBounds_toArray, List.set_cons_zero, List.set_cons_succ]
          refine wpAnyU_take (i := 6) (d := (some 39)) (v := _) rfl rfl (by kernel_rfl) (fun _ _ _ h => h) (fun _ _ h hu => ⟨(h.1).up hu, hu.cell (h.2.1), hu.cell (h.2.2.1), (h.2.2.2.1).up hu, (h.2.2.2.2.1).up hu, (h.2.2.2.2.2.1).up hu, (h.2.2.2.2.2.2.1).up hu, below_up (h.2.2.2.2.2.2.2) hu⟩) hSS (Or.inl ⟨by rfl, fun w' hSw => yu_call ?_ ((HX.out _).mono fun _ _ h => ⟨h.1, by rw [h.2]; exact Up.refl _⟩)⟩) ?_
          · go_simp
          try simp only [Act.put, List.setIfInBounds_toArray, List.set_cons_zero, List.set_cons_succ]
          refine wpAnyU_take (i := 7) (d := (some 40)) (v := _) rfl rfl (by kernel_rfl) (fun _ _ _ h => h) (fun _ _ h hu => ⟨(h.1).up hu, hu.cell (h.2.1), hu.cell (h.2.2.1), (h.2.2.2.1).up hu, (h.2.2.2.2.1).up hu, (h.2.2.2.2.2.1).up hu, (h.2.2.2.2.2.2.1).up hu, below_up (h.2.2.2.2.2.2.2) hu⟩) hSS (Or.inl ⟨by rfl, fun w' hSw => yu_value (run_ldB rfl rfl hSw.2.2.2.1 rfl)⟩) ?_
          try simp only [Act.put, List.setIfInBounds_toArray, List.set_cons_zero, List.set_cons_succ]
          refine wpAnyU_take (i := 8) (d := (some 41)) (v := _) rfl rfl (by kernel_rfl) (fun _ _ _ h => h) (fun _ _ h hu => ⟨(h.1).up hu, hu.cell (h.2.1), hu.cell (h.2.2.1), (h.2.2.2.1).up hu, (h.2.2.2.2.1).up hu, (h.2.2.2.2.2.1).up hu, (h.2.2.2.2.2.2.1).up hu, below_up (h.2.2.2.2.2.2.2) hu⟩) hSS (Or.inl ⟨by rfl, fun w' hSw => yu_call ?_ (HIn.out _ _ hSw.2.2.2.2.1)⟩) ?_
          · go_simp
          try simp only [Act.put, List.setIfInBounds_toArray, List.set_cons_zero, List.set_cons_succ]
          refine wpAnyU_pure (i := 9) (d := (some 32)) (v := ?_) rfl rfl (by kernel_rfl) (fun _ _ _ h => h) (fun _ _ h hu => ⟨(h.1).up hu, hu.cell (h.2.1), hu.cell (h.2.2.1), (h.2.2.2.1).up hu, (h.2.2.2.2.1).up hu, (h.2.2.2.2.2.1).up hu, (h.2.2.2.2.2.2.1).up hu, below_up (h.2.2.2.2.2.2.2) hu⟩) (Or.inl ⟨by rfl, fun w' _ => yu_value ?_⟩) ?_
          rotate_left
          · (go_simp; (try exact rfl))
          try simp only [Act.put, List.setIfInBounds_toArray, List.set_cons_zero, List.set_cons_succ]
          refine wpAnyU_pure (i := 10) (d := (some 42)) (v := ?_) rfl rfl (by kernel_rfl) (fun _ _ _ h => h) (fun _ _ h hu => ⟨(h.1).up hu, hu.cell (h.2.1), hu.cell (h.2.2.1), (h.2.2.2.1).up hu, (h.2.2.2.2.1).up hu, (h.2.2.2.2.2.1).up hu, (h.2.2.2.2.2.2.1).up hu, below_up (h.2.2.2.2.2.2.2) hu⟩) (Or.inl ⟨by rfl, fun w' _ => yu_value ?_⟩) ?_
          rotate_left
          · (go_simp; (try exact rfl))
          try simp only [Act.put, List.setIfInBounds_toArray, List.set_cons_zero, List.set_cons_succ]
          refine wpAnyU_pure (i := 11) (d := (some 43)) (v := ?_) rfl rfl (by kernel_rfl) (fun _ _ _ h => h) (fun _ _ h hu => ⟨(h.1).up hu, hu.cell (h.2.1), hu.cell (h.2.2.1), (h.2.2.2.1).up hu, (h.2.2.2.2.1).up hu, (h.2.2.2.2.2.1).up hu, (h.2.2.2.2.2.2.1).up hu, below_up (h.2.2.2.2.2.2.2) hu⟩) (Or.inl ⟨by rfl, fun w' _ => yu_value ?_⟩) ?_
          rotate_left
          · (go_simp; (try exact rfl))
          try simp only [Act.put, List.setIfInBounds_toArray, List.set_cons_zero, List.set_cons_succ]
          refine wpAnyU_pure (i := 12) (d := (some 44)) (v := ?_) rfl rfl (by kernel_rfl) (fun _ _ _ h => h) (fun _ _ h hu => ⟨(h.1).up hu, hu.cell (h.2.1), hu.cell (h.2.2.1), (h.2.2.2.1).up hu, (h.2.2.2.2.1).up hu, (h.2.2.2.2.2.1).up hu, (h.2.2.2.2.2.2.1).up hu, below_up (h.2.2.2.2.2.2.2) hu⟩) (Or.inl ⟨by rfl, fun w' _ => yu_value ?_⟩) ?_
          rotate_left
          · (go_simp; (try exact rfl))
          try simp only [Act.put, List.setIfInBounds_toArray, List.set_cons_zero, List.set_cons_succ]
          refine wpAnyU_one (i := 13) rfl (by kernel_rfl) (by rfl) fun wZ hwZ => ?_
          obtain ⟨hcW, hfW⟩ := (hS6.up hwZ).cells hkM
          go_simp
          clear hcW hfW
          refine wpAnyU_done (by kernel_rfl) (fun wF huE => ?_) _
          have hne1 : w.heap.size ≠ g := by omega
          have hne2 : w.heap.size + 1 ≠ g := by omega
          have hO5 := ((hS6.up hwZ).set hkM z9).up huE
          rw [HS9.out, mixed_same HlL.out HPS.out.1 HPS.out.2 (fun q h1 h2 => Hro.out q h1 h2)] at hO5
          have hB5 := ((hS1.up hwZ).other ⟨g, k, none⟩ (.int .i64 z9) hne1).up huE
          have hQ5 := ((hS7.up hwZ).other ⟨g, k, none⟩ (.int .i64 z9) hne2).up huE
          have hU5 := below_up ((below_up hSB hwZ).setCell (p := ⟨g, k, none⟩) (show w.heap.size ≤ g by omega) (.int .i64 z9)) huE
          have HFF : Hid (∀ q, q < pos n (i + 1) (i + 1) → fit (zth L' q) = true) := hid (fun q hq => by
            rcases Nat.lt_trichotomy q k with h1 | h1 | h1
            · exact HFit.out q h1
            · rw [h1, HZ9.out]; exact Hf.out
            · rw [Hro.out q h1 hq]; exact Hfl.out q (by have := HPS.out.2; omega))
          clear hq0 hq1 hwZ
          go_wp2_with fail
          go_roundg (n - (i + 1))
          case measure => omega
          case rel => exact ⟨i + 1, by omega, Nat.le_refl _, rfl, hO5, HFF.out, hB5, hQ5, hU5⟩
      · obtain rfl : i = n := by omega
        rw [pos_end, ← HLn.out, ← HlL.out] at hO hfits
        rw [mixed_all HlL.out] at hO
        have HI := hid (In64.of_fit hfits)
        have HG := hid (Hgood.out hfits)
        clear hfits hlt
        go_wp2_with (first
          | ((with_reducible apply ldM_P); exact rfl; exact rfl; exact hB; exact rfl)
          | ((with_reducible apply stM_P); exact rfl; exact rfl; exact hQ; exact rfl; exact rfl; exact two2 _ _ _ _ _))
        rw [HG.out]
        exact bodyPost_ret (resMs (u := .int .i64 0) rfl rfl rfl (hQ.setRow _) rfl) rfl (RSymPost.ok hU (by omega) hQ hO HN64.out HI.out (by rw [HlL.out]; exact hlen))
end Go.Proofs.YtdcpoamjmoceiaaGreatDoor
/-
  Symmetric matrices by the reference: Outer.
-/
namespace Go.Proofs.YtdcpoamjmoceiaaGreatDoor
open Go Go.RowKit
set_option maxRecDepth 100000
set_option maxRecDepth 100000

theorem blk_ne {w : World} {b b' : Nat} {t t' : TypeId} {C C' : Array Value} (h : Blk w b t C) (h' : Blk w b' t' C') (hne : t ≠ t') : b ≠ b' := by
  rintro rfl
  unfold Blk at h h'
  rw [h] at h'
  injection h' with h'
  injection h' with _ ht
  exact hne ht
theorem OwnI.setRowB {w : World} {base g : Nat} {v : Value} {l : List Int} {C D : Array Value} (h : OwnI w base v l) (hg : Blk w g 61 C) : OwnI (w.setRow g D) base v l := by
  refine ⟨h.1, ?_⟩
  rcases h.2 with h2 | ⟨b, cap, cur, h1, h2, h3, h4⟩
  · exact .inl h2
  · exact .inr ⟨b, cap, cur, h1, h2, Blk.row_other (t := 2) h3 D (blk_ne (t := 2) h3 hg (by decide)), h4⟩
theorem run_ldME {ev : Operand → Value} {w : World} {g : Nat} {C : Array Value} {o : Oper} {x : Operand} (ho : o.op = .load 24 x) (hx : ev x = .pointer (some ⟨g, 0, none⟩)) (hC : Blk w g 24 C) (h2 : C.size = 2) : (execOp ev o).run Tryz.prog w = .ok (.value (.agg C)) w := by
  obtain ⟨fs, hu⟩ := undM
  unfold execOp
  simp only [ho, hx, Instr.loadAt, Instr.sureAddr, Sem.run_bind, Sem.run_pure, Result.andThen_ok, run_loadVar_row w g _ 24 C (0, 0) _ hC hu rfl (by rw [infoM, h2])]
set_option maxHeartbeats 16000000 in
theorem router_any {v hv : Value} {N : Int} {l h : List Int} (x : Int) {w : World} (hm : Sm w v N l) (hh : Vw w hv h) (hx : I64 x) (hI : In64 h) (hh3 : h.length ≤ 1000) :
    Calls Tryz.prog 14 #[v, .int .i64 x, hv] w (RSymPost w (ouN N l x h) (ouR N l x h) (ouC N l x h)) := by
  have HR := hid (fun w' (hu : Up w w') => rright_any (hm.up hu))
  have HCP := hid (fun w' (hu : Up w w') => copy_any (hm.up hu))
  obtain ⟨s, rfl, hV, hN, hl, hlen⟩ := hm
  obtain ⟨p, cap, rfl, hcap, hc⟩ := hV
  have HH := hid hh
  obtain ⟨q, cq, rfl, _⟩ := hh
  obtain ⟨W0, hW0⟩ : ∃ W0, (w.alloc (.cells #[.int .i64 N, .slice p l.length cap] 24)).alloc (.cells #[.int .i64 0, .slice none 0 0] 24) = W0 := ⟨_, rfl⟩
  have hB : Blk W0 w.heap.size 24 #[.int .i64 N, .slice p l.length cap] := by rw [← hW0]; exact (Blk.new _ _ rfl).old _
  have hQ : Blk W0 (w.heap.size + 1) 24 #[.int .i64 0, .slice none 0 0] := by rw [← hW0]; exact Blk.new _ _ (by simp)
  have hU : Up w W0 := by rw [← hW0]; exact (Up.alloc _ _).trans (Up.alloc _ _)
  cases hR : rt N l with
  | false =>
    have e : ouC N l x h = 23 := by unfold ouC; rw [hR]; rfl
    have e2 : ouR N l x h = [] := by unfold ouR; rw [e]; rfl
    have e3 : ouN N l x h = 0 := by unfold ouN; rw [e]; rfl
    rw [e, e2, e3]
    rw [hR] at HR
    clear e e2 e3 hR hc hl hN hI
    go_enter Tryz.func14, Tryz.ntmps14
    go_wp2_with (first
      | ((with_reducible apply ldM_P); exact rfl; exact rfl; exact hB; exact rfl)
      | (go_at_call 26; (with_reducible refine (HR.out _ hU).mono ?_); rintro r w1 ⟨rfl, hu1⟩; replace hQ := hQ.up hu1)
      | ((with_reducible apply stM_P); exact rfl; exact rfl; exact hQ; exact rfl; exact rfl; exact two2 _ _ _ _ _))
    exact bodyPost_ret (resMs (u := .int .i64 23) rfl rfl rfl (hQ.setRow _) rfl) rfl (RSymPost.err 23 (hU.trans hu1) (by omega))
  | true =>
    rw [hR] at HR
    by_cases hn0 : (h.length : Int) = N
    · obtain ⟨n, rfl⟩ : ∃ n : Nat, N = (n : Int) := ⟨h.length, hn0.symm⟩
      obtain ⟨_, n8, htri, _⟩ := rt_spec hR
      rw [tri_nat] at htri
      have n8' : n ≤ 8 := by omega
      have hln : l.length = triN n := by omega
      have hhn : h.length = n := by omega
      have d3 : ((h.length : Int) != (n : Int)) = false := by rw [hn0]; simp
      have eN : ((n : Int)).toNat = n := by omega
      have HLn := hid hln
      have HhL := hid hhn
      have HI64 := hid hI
      have Hl64 := hid hl
      have hx64 := hid hx
      have HO := hid (fun v (hv : I64 v) w => of_big v hv.1 hv.2 w)
      obtain ⟨L', hL'⟩ : ∃ L', ouL n l x h = L' := ⟨_, rfl⟩
      have HlL : Hid (L'.length = l.length) := hid (by rw [← hL', ouL_len])
      have Hat : Hid (∀ i j, i ≤ j → j < n → zth L' (pos n i j) = zth l (pos n i j) + x * zth h i * zth h j) := hid (fun i j hij hj => by rw [← hL']; exact ouL_at x h n8' hln hij hj)
      obtain ⟨hc9, hd9⟩ : (∀ k, k < L'.length → fit (zth L' k) = false → RSymPost w (ouN n l x h) (ouR n l x h) (ouC n l x h) = RSymPost w 0 [] 21) ∧
          ((∀ k, k < L'.length → fit (zth L' k) = true) → RSymPost w (ouN n l x h) (ouR n l x h) (ouC n l x h) = RSymPost w n L' 0) := by
        refine ⟨fun k hk hf => ?_, fun hf => ?_⟩
        · have e : ouC n l x h = 21 := by unfold ouC; rw [hR, decide_eq_true hn0, eN, hL', all_no hk hf]; rfl
          unfold ouN ouR; rw [e]; rfl
        · have e : ouC n l x h = 0 := by unfold ouC; rw [hR, decide_eq_true hn0, eN, hL', all_yes hf]; rfl
          unfold ouN ouR; rw [e, if_pos rfl, if_pos rfl, eN, hL']
      have Hbad := hid hc9
      have Hgood := hid hd9
      obtain ⟨PP, hPP⟩ : ∃ PP, RSymPost w (ouN n l x h) (ouR n l x h) (ouC n l x h) = PP := ⟨_, rfl⟩
      rw [hPP] at Hbad Hgood ⊢
      have HN64 := hid hN
      clear hPP hc9 hd9 hL' hc hl hI hx hR hn0 htri hln hhn hN eN hcap
      go_enter Tryz.func14, Tryz.ntmps14
      go_wp2_with (first
        | ((with_reducible apply ldM_P); exact rfl; exact rfl; exact hB; exact rfl)
        | (go_at_call 26; (with_reducible refine (HR.out _ hU).mono ?_); rintro r w1 ⟨rfl, hu1⟩; replace hQ := hQ.up hu1; replace hB := hB.up hu1; replace hU := hU.trans hu1; have hc0 := hB.cell 0 rfl)
        | (go_at_call 23; (with_reducible refine (HCP.out _ hU).mono ?_); rintro r w2 ⟨sA, rfl, hu2, hO⟩; have hlt := hB.lt; have hlt2 := hQ.lt; replace hQ := hQ.up hu2; replace hB := hB.up hu2; replace hU := hU.trans hu2; obtain ⟨pA, nA, cA, rfl⟩ := OwnI.slice hO; have hO2 := OwnI.setRow (D := #[.int .i64 (n : Int), .slice pA nA cA]) hO hB; have hB2 := hB.setRow #[.int .i64 (n : Int), .slice pA nA cA]; have hQ2 := Blk.row_other hQ #[.int .i64 (n : Int), .slice pA nA cA] (show w.heap.size + 1 ≠ w.heap.size by omega); have hU2 := below_setRow hU (Nat.le_refl _) #[.int .i64 (n : Int), .slice pA nA cA])
        | ((with_reducible apply stM_P); exact rfl; exact rfl; exact hB; exact rfl; exact rfl; exact two2 _ _ _ _ _))
      obtain ⟨base, hbase⟩ : ∃ b, w1.heap.size = b := ⟨_, rfl⟩
      have hbs : w.heap.size + 1 < base := by omega
      rw [hbase] at hO2
      clear hbase hlt hlt2 hu1 hu2 hO hB hQ hU hc0 hW0
      go_loopg [8] n (fun g ti wr => ∃ i : Nat, i ≤ n ∧ n - i ≤ g ∧ ti = .int .i64 (i : Nat) ∧ RInv w base w.heap.size (w.heap.size + 1) n (.slice pA nA cA) L' l (pos n i i) wr)
      case atStart => exact ⟨0, Nat.zero_le _, by omega, rfl, by rw [pos_zero, mixed_zero]; exact hO2, fun q hq => by rw [pos_zero] at hq; omega, hB2, hQ2, hU2⟩
      case round =>
        clear hB2 hQ2 hU2 hO2
        obtain ⟨i, hi, hig, rfl, hO, hfits, hB, hQ, hU⟩ := hrel
        have hc0 := hB.cell 0 rfl
        by_cases hlt : i < n
        · have e1 : IntKind.i64.wrap ((i : Int) + 1) = (i : Int) + 1 := IntWalk.i64_in _ (by omega)
          go_wp2_with fail
          go_loopg [9] n (fun g tj wj => ∃ j : Nat, i ≤ j ∧ j ≤ n ∧ n - j ≤ g ∧ tj = .int .i64 (j : Nat) ∧ RInv w base w.heap.size (w.heap.size + 1) n (.slice pA nA cA) L' l (pos n i j) wj)
          case atStart => exact ⟨i, Nat.le_refl _, hi, by omega, rfl, hO, hfits, hB, hQ, hU⟩
          case round =>
            clear hO hfits hB hQ hU hc0
            obtain ⟨j, hij, hj, hjg, rfl, hO, hfits, hB, hQ, hU⟩ := hrel
            have hc0 := hB.cell 0 rfl
            by_cases hjlt : j < n
            · have hkl : pos n i j < l.length := by rw [HLn.out]; exact pos_lt hij hjlt
              have hM64 := In64.mixed HlL.out Hl64.out hfits
              have HSm := hid (hO.sm HN64.out hM64 (by rw [mixed_len HlL.out]; exact hlen))
              have HAt := hid (fun w' (hu : Up wr w') => rat_ent2 (HSm.out.up hu) n8' (by rw [mixed_len HlL.out]; exact HLn.out) hij hjlt)
              have hat := Hat.out i j hij hjlt
              have HX := hid (fun w => (pos_idx hij hjlt) ▸ rat_any (n : Int) (i : Int) (j : Int) (by omega) (by omega) (by omega) (by omega) (by omega) w)
              have HFit := hid hfits
              obtain ⟨k, hk⟩ : ∃ k, pos n i j = k := ⟨_, rfl⟩
              have HK := hid hk
              rw [hk] at hkl HAt hat hO HX HFit
              obtain ⟨g, cp, C, hv, hbg, -⟩ := hO.open (by rw [mixed_len HlL.out]; omega)
              injection hv with x1 x2 x3
              rw [mixed_len HlL.out] at x2
              subst x1 x2 x3
              have hihl : i < h.length := by rw [HhL.out]; exact hlt
              have hjhl : j < h.length := by rw [HhL.out]; exact hjlt
              obtain ⟨q', cq', xq, _, hcq⟩ := HH.out
              injection xq with y1 y2 y3
              subst y1 y3
              obtain ⟨ad, rfl, _⟩ := hcq i hihl
              have HAd := hid (fun w' (hu : Up w w') (i : Nat) (hi : i < h.length) => (show w'.cell? (ad.add i) = some (.int .i64 (zth h i)) from by obtain ⟨a2, z1, z2⟩ := hcq i hi; injection z1 with z1; subst z1; exact hu.cellEq z2))
              have hmx : zth (mixed L' l k) k = zth l k := mixed_at HlL.out hkl
              rw [hmx] at HAt
              have hak := Hl64.out k hkl
              have hzi := HI64.out i hihl
              have hzj := HI64.out j hjhl
              have b0 := i64_bp hak
              have b1 := i64_bp hx64.out
              have b2 := i64_bp hzi
              have b3 := i64_bp hzj
              have b4 : (zth h i * zth h j).natAbs < bp 2 := by rw [Int.natAbs_mul, bp_add 1 1]; exact Nat.mul_lt_mul'' b2 b3
              have b5 : (x * (zth h i * zth h j)).natAbs < bp 3 := by rw [Int.natAbs_mul, bp_add 1 2]; exact Nat.mul_lt_mul'' b1 b4
              have hat' : zth L' k = zth l k + x * (zth h i * zth h j) := by rw [hat, Int.mul_assoc]
              have b6 : (zth L' k).natAbs < bp 4 := by
                rw [hat']
                have c1 : bp 4 = bp 3 * 18446744073709551616 := bp_succ 3
                have c2 : bp 1 ≤ bp 3 := bp_mono (by omega)
                omega
              have n0 := nl_bp (by omega) b0
              have n1 := nl_bp (by omega) b1
              have n2 := nl_bp (by omega) b2
              have n3 := nl_bp (by omega) b3
              have n4 := nl_bp (by omega) b4
              have n5 := nl_bp (by omega) b5
              have HN3 := hid (nl_bp (by omega) b6)
              have HOk := hid (HO.out (zth l k) hak)
              have HOx := hid (HO.out x hx64.out)
              have HOi := hid (HO.out (zth h i) hzi)
              have HOj := hid (HO.out (zth h j) hzj)
              have HM1 := hid (fun (va vb : Value) (w : World) (ha : Big w va (zth h i)) (hb : Big w vb (zth h j)) => mul_big ha hb n2 n3)
              have HM2 := hid (fun (va vb : Value) (w : World) (ha : Big w va x) (hb : Big w vb (zth h i * zth h j)) => mul_big ha hb n1 n4)
              have HAD := hid (fun (va vb : Value) (w : World) (ha : Big w va (zth l k)) (hb : Big w vb (x * (zth h i * zth h j))) => hat' ▸ add_big ha hb n0 n5)
              have HS9 := hid (mixed_set HlL.out hkl)
              have HML := hid (mixed_len HlL.out k)
              clear hat hat' n0 n1 n2 n3 n4 n5 b0 b1 b2 b3 b4 b5 b6 hak hzi hzj hk hM64 hfits hcq y2 hmx HSm
              obtain ⟨z9, hz9'⟩ : ∃ z, zth L' k = z := ⟨_, rfl⟩
              have HZ9 := hid hz9'
              rw [hz9'] at HS9 HN3 HAD
              clear hz9'
              obtain ⟨p2, hp2⟩ : ∃ z, x * (zth h i * zth h j) = z := ⟨_, rfl⟩
              rw [hp2] at HM2 HAD
              clear hp2
              obtain ⟨p1, hp1⟩ : ∃ z, zth h i * zth h j = z := ⟨_, rfl⟩
              rw [hp1] at HM1 HM2
              clear hp1
              obtain ⟨zi, hzi9⟩ : ∃ z, zth h i = z := ⟨_, rfl⟩
              obtain ⟨zj, hzj9⟩ : ∃ z, zth h j = z := ⟨_, rfl⟩
              have HZi := hid hzi9
              have HZj := hid hzj9
              rw [hzi9, hzj9] at HM1
              rw [hzi9] at HOi
              rw [hzj9] at HOj
              clear hzi9 hzj9
              generalize zth l k = ak at *
              obtain ⟨M, hM9⟩ : ∃ M, mixed L' l k = M := ⟨_, rfl⟩
              rw [hM9] at hO HS9 HML
              clear hM9
              have hkM : k < M.length := by rw [HML.out]; exact hkl
              have hVh := Vw.up hU HH.out
              go_wp2_with fail
              refine wp_region_sp (n := 75) 21 [37, 38, 39, 40, 41, 42, 43, 44, 45, 46, 47, 48, 49, 50, 51, 52, 53, 54, 55, 56, 10] [SP.is (.agg #[.int .i64 (n : Int), .slice (some ⟨g, 0, none⟩) l.length cA]), SP.is (.int .i64 (i : Nat)), SP.is (.int .i64 (j : Nat)), SP.is (.int .i64 ak), SP.of (fun v w1 => Big w1 v ak) (fun _ _ _ h hu => h.up hu), SP.is (.int .i64 x), SP.of (fun v w1 => Big w1 v x) (fun _ _ _ h hu => h.up hu), SP.is (.slice (some ad) h.length cq), SP.is (.int .i64 (i : Nat)), SP.is (.pointer (some (ad.add i))), SP.is (.int .i64 zi), SP.of (fun v w1 => Big w1 v zi) (fun _ _ _ h hu => h.up hu), SP.is (.slice (some ad) h.length cq), SP.is (.int .i64 (j : Nat)), SP.is (.pointer (some (ad.add j))), SP.is (.int .i64 zj), SP.of (fun v w1 => Big w1 v zj) (fun _ _ _ h hu => h.up hu), SP.of (fun v w1 => Big w1 v p1) (fun _ _ _ h hu => h.up hu), SP.of (fun v w1 => Big w1 v p2) (fun _ _ _ h hu => h.up hu), SP.of (fun v w1 => Big w1 v z9) (fun _ _ _ h hu => h.up hu), SP.of (fun v w1 => ∃ b, v = .pointer (some ⟨b, 0, none⟩) ∧ w.heap.size ≤ b ∧ Blk w1 b 61 #[.bool false, .slice none 0 0]) (fun _ _ _ h hu => h.imp fun _ k => ⟨k.1, k.2.1, k.2.2.up hu⟩), SP.any] (fun wq => Blk wq w.heap.size 24 #[.int .i64 (n : Int), .slice (some ⟨g, 0, none⟩) l.length cA] ∧ Up wr wq ∧ Below w.heap.size w wq) (by kernel_rfl) (by rfl) (by kernel_rfl) (by kernel_rfl) (fun _ _ h hu => ⟨(h.1).up hu, (h.2.1).trans hu, below_up (h.2.2) hu⟩) ⟨(by first | assumption | ((repeat (first | assumption | ((with_reducible apply blk_new); (focus (first | rfl | (simp; done)))) | (with_reducible apply blk_alloc) | (with_reducible apply blk_drew) | (with_reducible apply blk_drewN) | ((with_reducible apply blk_up); assumption) | (with_reducible apply blk_same) | ((with_reducible apply blk_else); (focus (first | (simp; done) | (simp; omega) | omega))))))), (by first | exact Up.refl _ | assumption), (by repeat (first | assumption | (with_reducible apply Up.of) | (with_reducible exact Below.refl _ _) | (with_reducible exact Up.refl _) | ((with_reducible apply bl_setRow); (focus (first | exact Nat.le_refl _ | (simp; done) | (simp; omega) | omega))) | (with_reducible apply below_drewN) | (with_reducible apply Below.drew) | ((with_reducible apply bl_alloc); (focus (first | exact Nat.le_refl _ | (simp; done) | (simp; omega) | omega))) | ((with_reducible apply bl_setCell); (focus (first | exact Nat.le_refl _ | (simp; done) | (simp; omega) | omega))) | ((with_reducible apply up_tr); assumption)))⟩ (fun ev w9 hS9 i o hne hi hev => ?_) (fun gR wE hq hSE huE => ?_)
              · have ⟨hS1, hS2, hSB⟩ := hS9
                have hcC := hev.const
                have hcF := hev.func
                have hcG := hev.global
                rcases i with _ | _ | _ | _ | _ | _ | _ | _ | _ | _ | _ | _ | _ | _ | _ | _ | _ | _ | _ | _ | _ | _ | i
                · obtain rfl := Option.some.inj (show some _ = some o from hi)
                  have e3 := hev.other 3 (by kernel_rfl)
                  simp [Act.eval] at e3
                  exact leavesR_value (run_ldME rfl e3 hS1 rfl) rfl
                · obtain rfl := Option.some.inj (show some _ = some o from hi)
                  have e8 := hev.other 8 (by kernel_rfl)
                  simp [Act.eval] at e8
                  exact leavesR_value (u := .int .i64 (i : Nat)) (by first | (go_simp; done) | (go_simp; exact rfl)) rfl
                · obtain rfl := Option.some.inj (show some _ = some o from hi)
                  have e9 := hev.other 9 (by kernel_rfl)
                  simp [Act.eval] at e9
                  exact leavesR_value (u := .int .i64 (j : Nat)) (by first | (go_simp; done) | (go_simp; exact rfl)) rfl
                · obtain rfl := Option.some.inj (show some _ = some o from hi)
                  have e37 : ev (.tmp 37) = (.agg #[.int .i64 (n : Int), .slice (some ⟨g, 0, none⟩) l.length cA]) := hev.dep 0 37 (by kernel_rfl)
                  have e38 : ev (.tmp 38) = (.int .i64 (i : Nat)) := hev.dep 1 38 (by kernel_rfl)
                  have e39 : ev (.tmp 39) = (.int .i64 (j : Nat)) := hev.dep 2 39 (by kernel_rfl)
                  refine leavesR_call ?_ ((HAt.out _ hS2).mono fun _ _ h => ⟨h.2, _, h.1, rfl⟩)
                  go_simp
                · obtain rfl := Option.some.inj (show some _ = some o from hi)
                  have e40 : ev (.tmp 40) = (.int .i64 ak) := hev.dep 3 40 (by kernel_rfl)
                  refine leavesR_call ?_ (HOk.out _)
                  go_simp
                · obtain rfl := Option.some.inj (show some _ = some o from hi)
                  have e1 := hev.other 1 (by kernel_rfl)
                  simp [Act.eval] at e1
                  exact leavesR_value (u := .int .i64 x) (by first | (go_simp; done) | (go_simp; exact rfl)) rfl
                · obtain rfl := Option.some.inj (show some _ = some o from hi)
                  have e42 : ev (.tmp 42) = (.int .i64 x) := hev.dep 5 42 (by kernel_rfl)
                  refine leavesR_call ?_ (HOx.out _)
                  go_simp
                · obtain rfl := Option.some.inj (show some _ = some o from hi)
                  have e2 := hev.other 2 (by kernel_rfl)
                  simp [Act.eval] at e2
                  exact leavesR_value (u := .slice (some ad) h.length cq) (by first | (go_simp; done) | (go_simp; exact rfl)) rfl
                · obtain rfl := Option.some.inj (show some _ = some o from hi)
                  have e8 := hev.other 8 (by kernel_rfl)
                  simp [Act.eval] at e8
                  exact leavesR_value (u := .int .i64 (i : Nat)) (by first | (go_simp; done) | (go_simp; exact rfl)) rfl
                · obtain rfl := Option.some.inj (show some _ = some o from hi)
                  have e44 : ev (.tmp 44) = (.slice (some ad) h.length cq) := hev.dep 7 44 (by kernel_rfl)
                  have e45 : ev (.tmp 45) = (.int .i64 (i : Nat)) := hev.dep 8 45 (by kernel_rfl)
                  exact leavesR_value (u := .pointer (some (ad.add i))) (by first | (go_simp; done) | (go_simp; exact rfl)) rfl
                · obtain rfl := Option.some.inj (show some _ = some o from hi)
                  have e46 : ev (.tmp 46) = (.pointer (some (ad.add i))) := hev.dep 9 46 (by kernel_rfl)
                  have hcx := HAd.out w9 hSB i hihl; rw [HZi.out] at hcx; exact leavesR_value (u := .int .i64 zi) (by go_simp) rfl
                · obtain rfl := Option.some.inj (show some _ = some o from hi)
                  have e47 : ev (.tmp 47) = (.int .i64 zi) := hev.dep 10 47 (by kernel_rfl)
                  refine leavesR_call ?_ (HOi.out _)
                  go_simp
                · obtain rfl := Option.some.inj (show some _ = some o from hi)
                  have e2 := hev.other 2 (by kernel_rfl)
                  simp [Act.eval] at e2
                  exact leavesR_value (u := .slice (some ad) h.length cq) (by first | (go_simp; done) | (go_simp; exact rfl)) rfl
                · obtain rfl := Option.some.inj (show some _ = some o from hi)
                  have e9 := hev.other 9 (by kernel_rfl)
                  simp [Act.eval] at e9
                  exact leavesR_value (u := .int .i64 (j : Nat)) (by first | (go_simp; done) | (go_simp; exact rfl)) rfl
                · obtain rfl := Option.some.inj (show some _ = some o from hi)
                  have e49 : ev (.tmp 49) = (.slice (some ad) h.length cq) := hev.dep 12 49 (by kernel_rfl)
                  have e50 : ev (.tmp 50) = (.int .i64 (j : Nat)) := hev.dep 13 50 (by kernel_rfl)
                  exact leavesR_value (u := .pointer (some (ad.add j))) (by first | (go_simp; done) | (go_simp; exact rfl)) rfl
                · obtain rfl := Option.some.inj (show some _ = some o from hi)
                  have e51 : ev (.tmp 51) = (.pointer (some (ad.add j))) := hev.dep 14 51 (by kernel_rfl)
                  have hcx := HAd.out w9 hSB j hjhl; rw [HZj.out] at hcx; exact leavesR_value (u := .int .i64 zj) (by go_simp) rfl
                · obtain rfl := Option.some.inj (show some _ = some o from hi)
                  have e52 : ev (.tmp 52) = (.int .i64 zj) := hev.dep 15 52 (by kernel_rfl)
                  refine leavesR_call ?_ (HOj.out _)
                  go_simp
                · obtain rfl := Option.some.inj (show some _ = some o from hi)
                  have e48 : (fun v w1 => Big w1 v zi) (ev (.tmp 48)) w9 := hev.dep 11 48 (by kernel_rfl)
                  dsimp only at e48
                  obtain ⟨v48, hv48⟩ : ∃ v, ev (.tmp 48) = v := ⟨_, rfl⟩
                  rw [hv48] at e48
                  have e53 : (fun v w1 => Big w1 v zj) (ev (.tmp 53)) w9 := hev.dep 16 53 (by kernel_rfl)
                  dsimp only at e53
                  obtain ⟨v53, hv53⟩ : ∃ v, ev (.tmp 53) = v := ⟨_, rfl⟩
                  rw [hv53] at e53
                  refine leavesR_call ?_ (HM1.out _ _ _ e48 e53)
                  go_simp
                · obtain rfl := Option.some.inj (show some _ = some o from hi)
                  have e43 : (fun v w1 => Big w1 v x) (ev (.tmp 43)) w9 := hev.dep 6 43 (by kernel_rfl)
                  dsimp only at e43
                  obtain ⟨v43, hv43⟩ : ∃ v, ev (.tmp 43) = v := ⟨_, rfl⟩
                  rw [hv43] at e43
                  have e54 : (fun v w1 => Big w1 v p1) (ev (.tmp 54)) w9 := hev.dep 17 54 (by kernel_rfl)
                  dsimp only at e54
                  obtain ⟨v54, hv54⟩ : ∃ v, ev (.tmp 54) = v := ⟨_, rfl⟩
                  rw [hv54] at e54
                  refine leavesR_call ?_ (HM2.out _ _ _ e43 e54)
                  go_simp
                · obtain rfl := Option.some.inj (show some _ = some o from hi)
                  have e41 : (fun v w1 => Big w1 v ak) (ev (.tmp 41)) w9 := hev.dep 4 41 (by kernel_rfl)
                  dsimp only at e41
                  obtain ⟨v41, hv41⟩ : ∃ v, ev (.tmp 41) = v := ⟨_, rfl⟩
                  rw [hv41] at e41
                  have e55 : (fun v w1 => Big w1 v p2) (ev (.tmp 55)) w9 := hev.dep 18 55 (by kernel_rfl)
                  dsimp only at e55
                  obtain ⟨v55, hv55⟩ : ∃ v, ev (.tmp 55) = v := ⟨_, rfl⟩
                  rw [hv55] at e55
                  refine leavesR_call ?_ (HAD.out _ _ _ e41 e55)
                  go_simp
                · obtain rfl := Option.some.inj (show some _ = some o from hi)
                  exact leavesR_up (u := .pointer (some ⟨w9.heap.size, 0, none⟩)) (w' := w9.alloc (.cells #[.bool false, .slice none 0 0] 61)) (by go_simp) (Up.alloc _ _) ⟨_, rfl, hSB.size, Blk.new _ _ rfl⟩
                · exact absurd rfl hne
                · exact absurd (show i + 22 < 22 from (Array.getElem?_eq_some_iff.1 hi).1) (by omega)
              have ⟨hS1, hS2, hSB⟩ := hSE
              have q0 : gR 37 = (.agg #[.int .i64 (n : Int), .slice (some ⟨g, 0, none⟩) l.length cA]) := hq 0 37 (by decide) (by kernel_rfl)
              have q1 : gR 38 = (.int .i64 (i : Nat)) := hq 1 38 (by decide) (by kernel_rfl)
              have q2 : gR 39 = (.int .i64 (j : Nat)) := hq 2 39 (by decide) (by kernel_rfl)
              have q3 : gR 40 = (.int .i64 ak) := hq 3 40 (by decide) (by kernel_rfl)
              have q4 : (fun v w1 => Big w1 v ak) (gR 41) wE := hq 4 41 (by decide) (by kernel_rfl)
              dsimp only at q4
              obtain ⟨v41, hv41⟩ : ∃ v, gR 41 = v := ⟨_, rfl⟩
              rw [hv41] at q4
              have q5 : gR 42 = (.int .i64 x) := hq 5 42 (by decide) (by kernel_rfl)
              have q6 : (fun v w1 => Big w1 v x) (gR 43) wE := hq 6 43 (by decide) (by kernel_rfl)
              dsimp only at q6
              obtain ⟨v43, hv43⟩ : ∃ v, gR 43 = v := ⟨_, rfl⟩
              rw [hv43] at q6
              have q7 : gR 44 = (.slice (some ad) h.length cq) := hq 7 44 (by decide) (by kernel_rfl)
              have q8 : gR 45 = (.int .i64 (i : Nat)) := hq 8 45 (by decide) (by kernel_rfl)
              have q9 : gR 46 = (.pointer (some (ad.add i))) := hq 9 46 (by decide) (by kernel_rfl)
              have q10 : gR 47 = (.int .i64 zi) := hq 10 47 (by decide) (by kernel_rfl)
              have q11 : (fun v w1 => Big w1 v zi) (gR 48) wE := hq 11 48 (by decide) (by kernel_rfl)
              dsimp only at q11
              obtain ⟨v48, hv48⟩ : ∃ v, gR 48 = v := ⟨_, rfl⟩
              rw [hv48] at q11
              have q12 : gR 49 = (.slice (some ad) h.length cq) := hq 12 49 (by decide) (by kernel_rfl)
              have q13 : gR 50 = (.int .i64 (j : Nat)) := hq 13 50 (by decide) (by kernel_rfl)
              have q14 : gR 51 = (.pointer (some (ad.add j))) := hq 14 51 (by decide) (by kernel_rfl)
              have q15 : gR 52 = (.int .i64 zj) := hq 15 52 (by decide) (by kernel_rfl)
              have q16 : (fun v w1 => Big w1 v zj) (gR 53) wE := hq 16 53 (by decide) (by kernel_rfl)
              dsimp only at q16
              obtain ⟨v53, hv53⟩ : ∃ v, gR 53 = v := ⟨_, rfl⟩
              rw [hv53] at q16
              have q17 : (fun v w1 => Big w1 v p1) (gR 54) wE := hq 17 54 (by decide) (by kernel_rfl)
              dsimp only at q17
              obtain ⟨v54, hv54⟩ : ∃ v, gR 54 = v := ⟨_, rfl⟩
              rw [hv54] at q17
              have q18 : (fun v w1 => Big w1 v p2) (gR 55) wE := hq 18 55 (by decide) (by kernel_rfl)
              dsimp only at q18
              obtain ⟨v55, hv55⟩ : ∃ v, gR 55 = v := ⟨_, rfl⟩
              rw [hv55] at q18
              have q19 : (fun v w1 => Big w1 v z9) (gR 56) wE := hq 19 56 (by decide) (by kernel_rfl)
              dsimp only at q19
              obtain ⟨v56, hv56⟩ : ∃ v, gR 56 = v := ⟨_, rfl⟩
              rw [hv56] at q19
              have q20 : (fun v w1 => ∃ b, v = .pointer (some ⟨b, 0, none⟩) ∧ w.heap.size ≤ b ∧ Blk w1 b 61 #[.bool false, .slice none 0 0]) (gR 10) wE := hq 20 10 (by decide) (by kernel_rfl)
              dsimp only at q20
              obtain ⟨v10, hv10⟩ : ∃ v, gR 10 = v := ⟨_, rfl⟩
              rw [hv10] at q20
              refine ⟨fun h => absurd h (by decide), fun o ho => ?_⟩
              obtain rfl := Option.some.inj (show some _ = some o from ho)
              simp only [putL, List.map_cons, List.map_nil, q0, q1, q2, q3, hv41, q5, hv43, q7, q8, q9, q10, hv48, q12, q13, q14, q15, hv53, hv54, hv55, hv56, hv10, Act.put, List.setIfInBounds_toArray, List.set_cons_zero, List.set_cons_succ]
              clear hq hSE q0 q1 q2 q3 q5 q7 q8 q9 q10 q12 q13 q14 q15
              obtain ⟨b7, rfl, hb7, hBz⟩ := q20
              obtain ⟨bb, ba, bn, bc, rfl⟩ := q19.shape
              refine wp_stB rfl rfl rfl rfl hBz rfl rfl (one2 _ _ _ _) ?_
              have hB7 := Blk.row_other (hB.up huE) #[.bool bb, .slice ba bn bc] (blk_ne (hB.up huE) hBz (by decide))
              have hQ7 := Blk.row_other (hQ.up huE) #[.bool bb, .slice ba bn bc] (blk_ne (hQ.up huE) hBz (by decide))
              have hO7 := OwnI.setRowB (D := #[.bool bb, .slice ba bn bc]) (hO.up huE) hBz
              have hU7 := below_setRow (hU.trans huE) hb7 #[.bool bb, .slice ba bn bc]
              have hBg := hBz.setRow #[.bool bb, .slice ba bn bc]
              have hbg6 := big_set (D := #[.bool bb, .slice ba bn bc]) hBz q19
              obtain ⟨wK, hwK⟩ : ∃ wK, wE.setRow b7 #[.bool bb, .slice ba bn bc] = wK := ⟨_, rfl⟩
              rw [hwK] at hB7 hQ7 hO7 hU7 hBg hbg6 ⊢
              clear hwK hBz q19 q17 q18 q16 q11 q6 q4 hS1 hS2 hSB huE hB hQ hO hU hc0 hVh
              cases hf : fit z9 with
              | false =>
                have HF9 := hid (fun (va : Value) (w : World) (hb : Big w va z9) => hf ▸ rfits_any hb HN3.out)
                have Hf := hid hf
                clear hf
                go_wp2_with (first
                  | ((with_reducible apply ldB_P); exact rfl; exact rfl; exact hBg; exact rfl)
                  | (go_at_call 53; (with_reducible refine (HF9.out _ _ hbg6).mono ?_); rintro r w7 ⟨rfl, hu7⟩; replace hQ7 := hQ7.up hu7)
                  | ((with_reducible apply stM_P); exact rfl; exact rfl; exact hQ7; exact rfl; exact rfl; exact two2 _ _ _ _ _))
                rw [Hbad.out k (by rw [HlL.out]; exact hkl) (by rw [HZ9.out]; exact Hf.out)]
                exact bodyPost_ret (resMs (u := .int .i64 21) rfl rfl rfl (hQ7.setRow _) rfl) rfl (RSymPost.err 21 (below_up hU7 hu7) (by omega))
              | true =>
                have HF9 := hid (fun (va : Value) (w : World) (hb : Big w va z9) => hf ▸ rfits_any hb HN3.out)
                have Hf := hid hf
                have HIn := hid (fun (va : Value) (w : World) (hb : Big w va z9) => (i64V_yes (fit_i64 hf)) ▸ int64_big hb HN3.out)
                clear hf
                go_wp2_with (first
                  | ((with_reducible apply ldB_P); exact rfl; exact rfl; exact hBg; exact rfl)
                  | (go_at_call 53; (with_reducible refine (HF9.out _ _ hbg6).mono ?_); rintro r w7 ⟨rfl, hu7⟩; replace hQ7 := hQ7.up hu7; replace hB7 := hB7.up hu7; replace hO7 := hO7.up hu7; replace hbg6 := hbg6.up hu7; replace hBg := hBg.up hu7; replace hU7 := below_up hU7 hu7))
                have hq0 := hB7.cell 0 rfl
                have hq1 := hB7.cell 1 rfl
                refine wp_region_upS (S := (fun wq => Blk wq w.heap.size 24 #[.int .i64 (n : Int), .slice (some ⟨g, 0, none⟩) l.length cA] ∧ wq.cell? ⟨w.heap.size, 0, none⟩ = some (.int .i64 (n : Int)) ∧ wq.cell? ⟨w.heap.size, 1, none⟩ = some (.slice (some ⟨g, 0, none⟩) l.length cA) ∧ Blk wq b7 61 #[.bool bb, .slice ba bn bc] ∧ Big wq (.agg #[.bool bb, .slice ba bn bc]) z9 ∧ OwnI wq base (.slice (some ⟨g, 0, none⟩) l.length cA) M ∧ Blk wq (w.heap.size + 1) 24 #[.int .i64 0, .slice none 0 0] ∧ Below w.heap.size w wq)) (req := (fun j => j != 13)) (by kernel_rfl) (fun _ _ h hu => ⟨(h.1).up hu, hu.cell (h.2.1), hu.cell (h.2.2.1), (h.2.2.2.1).up hu, (h.2.2.2.2.1).up hu, (h.2.2.2.2.2.1).up hu, (h.2.2.2.2.2.2.1).up hu, below_up (h.2.2.2.2.2.2.2) hu⟩) ⟨(by (repeat (first | assumption | ((with_reducible apply blk_new); (focus (first | rfl | (simp; done)))) | (with_reducible apply blk_alloc) | (with_reducible apply blk_drew) | (with_reducible apply blk_drewN) | ((with_reducible apply blk_up); assumption) | (with_reducible apply blk_same) | ((with_reducible apply blk_else); (focus (first | (simp; done) | (simp; omega) | omega)))))), (by first | assumption | (apply Blk.cell; (focus (repeat (first | assumption | ((with_reducible apply blk_new); (focus (first | rfl | (simp; done)))) | (with_reducible apply blk_alloc) | (with_reducible apply blk_drew) | (with_reducible apply blk_drewN) | ((with_reducible apply blk_up); assumption) | (with_reducible apply blk_same) | ((with_reducible apply blk_else); (focus (first | (simp; done) | (simp; omega) | omega)))))); exact rfl)), (by first | assumption | (apply Blk.cell; (focus (repeat (first | assumption | ((with_reducible apply blk_new); (focus (first | rfl | (simp; done)))) | (with_reducible apply blk_alloc) | (with_reducible apply blk_drew) | (with_reducible apply blk_drewN) | ((with_reducible apply blk_up); assumption) | (with_reducible apply blk_same) | ((with_reducible apply blk_else); (focus (first | (simp; done) | (simp; omega) | omega)))))); exact rfl)), (by (repeat (first | assumption | ((with_reducible apply blk_new); (focus (first | rfl | (simp; done)))) | (with_reducible apply blk_alloc) | (with_reducible apply blk_drew) | (with_reducible apply blk_drewN) | ((with_reducible apply blk_up); assumption) | (with_reducible apply blk_same) | ((with_reducible apply blk_else); (focus (first | (simp; done) | (simp; omega) | omega)))))), (by (repeat (first | assumption | ((with_reducible apply big_set); (focus (repeat (first | assumption | ((with_reducible apply blk_new); (focus (first | rfl | (simp; done)))) | (with_reducible apply blk_alloc) | (with_reducible apply blk_drew) | (with_reducible apply blk_drewN) | ((with_reducible apply blk_up); assumption) | (with_reducible apply blk_same) | ((with_reducible apply blk_else); (focus (first | (simp; done) | (simp; omega) | omega))))))) | (with_reducible apply big_alloc) | ((with_reducible apply big_up); assumption))); done), (by assumption), (by (repeat (first | assumption | ((with_reducible apply blk_new); (focus (first | rfl | (simp; done)))) | (with_reducible apply blk_alloc) | (with_reducible apply blk_drew) | (with_reducible apply blk_drewN) | ((with_reducible apply blk_up); assumption) | (with_reducible apply blk_same) | ((with_reducible apply blk_else); (focus (first | (simp; done) | (simp; omega) | omega)))))), (by repeat (first | assumption | (with_reducible apply Up.of) | (with_reducible exact Below.refl _ _) | (with_reducible exact Up.refl _) | ((with_reducible apply bl_setRow); (focus (first | exact Nat.le_refl _ | (simp; done) | (simp; omega) | omega))) | (with_reducible apply below_drewN) | (with_reducible apply Below.drew) | ((with_reducible apply bl_alloc); (focus (first | exact Nat.le_refl _ | (simp; done) | (simp; omega) | omega))) | ((with_reducible apply bl_setCell); (focus (first | exact Nat.le_refl _ | (simp; done) | (simp; omega) | omega))) | ((with_reducible apply up_tr); assumption)))⟩ (fun wS hSS => ?_)
                have ⟨hS1, hS2, hS3, hS4, hS5, hS6, hS7, hSB⟩ := hSS
                refine wpAnyU_pure (i := 0) (d := (some 62)) (v := ?_) rfl rfl (by kernel_rfl) (fun _ _ _ h => h) (fun _ _ h hu => ⟨(h.1).up hu, hu.cell (h.2.1), hu.cell (h.2.2.1), (h.2.2.2.1).up hu, (h.2.2.2.2.1).up hu, (h.2.2.2.2.2.1).up hu, (h.2.2.2.2.2.2.1).up hu, below_up (h.2.2.2.2.2.2.2) hu⟩) (Or.inl ⟨by rfl, fun w' _ => yu_value ?_⟩) ?_
                rotate_left
                · (go_simp; (try exact rfl))
                try simp only [Act.put, List.setIfInBounds_toArray, List.set_cons_zero, List.set_cons_succ]
                refine wpAnyU_take (i := 1) (d := (some 63)) (v := ?_) rfl rfl (by kernel_rfl) (fun _ _ _ h => h) (fun _ _ h hu => ⟨(h.1).up hu, hu.cell (h.2.1), hu.cell (h.2.2.1), (h.2.2.2.1).up hu, (h.2.2.2.2.1).up hu, (h.2.2.2.2.2.1).up hu, (h.2.2.2.2.2.2.1).up hu, below_up (h.2.2.2.2.2.2.2) hu⟩) hSS (Or.inl ⟨by rfl, fun w' hSw => yu_value ?_⟩) ?_
                rotate_left
                · ((try dsimp only at hSw); (try obtain ⟨_, _, _, _, _, _, _, _⟩ := hSw); go_simp; (try exact rfl))
                try simp only [Act.put, List.setIfInBounds_toArray, List.set_cons_zero, List.set_cons_succ]
                refine wpAnyU_pure (i := 2) (d := (some 64)) (v := ?_) rfl rfl (by kernel_rfl) (fun _ _ _ h => h) (fun _ _ h hu => ⟨(h.1).up hu, hu.cell (h.2.1), hu.cell (h.2.2.1), (h.2.2.2.1).up hu, (h.2.2.2.2.1).up hu, (h.2.2.2.2.2.1).up hu, (h.2.2.2.2.2.2.1).up hu, below_up (h.2.2.2.2.2.2.2) hu⟩) (Or.inl ⟨by rfl, fun w' _ => yu_value ?_⟩) ?_
                rotate_left
                · (go_simp; (try exact rfl))
                try simp only [Act.put, List.setIfInBounds_toArray, List.set_cons_zero, List.set_cons_succ]
                refine wpAnyU_take (i := 3) (d := (some 65)) (v := ?_) rfl rfl (by kernel_rfl) (fun _ _ _ h => h) (fun _ _ h hu => ⟨(h.1).up hu, hu.cell (h.2.1), hu.cell (h.2.2.1), (h.2.2.2.1).up hu, (h.2.2.2.2.1).up hu, (h.2.2.2.2.2.1).up hu, (h.2.2.2.2.2.2.1).up hu, below_up (h.2.2.2.2.2.2.2) hu⟩) hSS (Or.inl ⟨by rfl, fun w' hSw => yu_value ?_⟩) ?_
                rotate_left
                · ((try dsimp only at hSw); (try obtain ⟨_, _, _, _, _, _, _, _⟩ := hSw); go_simp; (try exact rfl))
                try simp only [Act.put, List.setIfInBounds_toArray, List.set_cons_zero, List.set_cons_succ]
                refine wpAnyU_pure (i := 4) (d := (some 66)) (v := ?_) rfl rfl (by kernel_rfl) (fun _ _ _ h => h) (fun _ _ h hu => ⟨(h.1).up hu, hu.cell (h.2.1), hu.cell (h.2.2.1), (h.2.2.2.1).up hu, (h.2.2.2.2.1).up hu, (h.2.2.2.2.2.1).up hu, (h.2.2.2.2.2.2.1).up hu, below_up (h.2.2.2.2.2.2.2) hu⟩) (Or.inl ⟨by rfl, fun w' _ => yu_value ?_⟩) ?_
                rotate_left
                · (go_simp; (try exact rfl))
                try simp only [Act.put, List.setIfInBounds_toArray, List.set_cons_zero, List.set_cons_succ]
                refine wpAnyU_pure (i := 5) (d := (some 67)) (v := ?_) rfl rfl (by kernel_rfl) (fun _ _ _ h => h) (fun _ _ h hu => ⟨(h.1).up hu, hu.cell (h.2.1), hu.cell (h.2.2.1), (h.2.2.2.1).up hu, (h.2.2.2.2.1).up hu, (h.2.2.2.2.2.1).up hu, (h.2.2.2.2.2.2.1).up hu, below_up (h.2.2.2.2.2.2.2) hu⟩) (Or.inl ⟨by rfl, fun w' _ => yu_value ?_⟩) ?_
                rotate_left
                · (go_simp; (try exact rfl))
                try simp only [Act.put, List.setIfInBounds_toArray, List.set_cons_zero, List.set_cons_succ]
                refine wpAnyU_take (i := 6) (d := (some 68)) (v := _) rfl rfl (by kernel_rfl) (fun _ _ _ h => h) (fun _ _ h hu => ⟨(h.1).up hu, hu.cell (h.2.1), hu.cell (h.2.2.1), (h.2.2.2.1).up hu, (h.2.2.2.2.1).up hu, (h.2.2.2.2.2.1).up hu, (h.2.2.2.2.2.2.1).up hu, below_up (h.2.2.2.2.2.2.2) hu⟩) hSS (Or.inl ⟨by rfl, fun w' hSw => yu_call ?_ ((HX.out _).mono fun _ _ h => ⟨h.1, by rw [h.2]; exact Up.refl _⟩)⟩) ?_
                · go_simp
                try simp only [Act.put, List.setIfInBounds_toArray, List.set_cons_zero, List.set_cons_succ]
                refine wpAnyU_take (i := 7) (d := (some 69)) (v := _) rfl rfl (by kernel_rfl) (fun _ _ _ h => h) (fun _ _ h hu => ⟨(h.1).up hu, hu.cell (h.2.1), hu.cell (h.2.2.1), (h.2.2.2.1).up hu, (h.2.2.2.2.1).up hu, (h.2.2.2.2.2.1).up hu, (h.2.2.2.2.2.2.1).up hu, below_up (h.2.2.2.2.2.2.2) hu⟩) hSS (Or.inl ⟨by rfl, fun w' hSw => yu_value (run_ldB rfl rfl hSw.2.2.2.1 rfl)⟩) ?_
                try simp only [Act.put, List.setIfInBounds_toArray, List.set_cons_zero, List.set_cons_succ]
                refine wpAnyU_take (i := 8) (d := (some 70)) (v := _) rfl rfl (by kernel_rfl) (fun _ _ _ h => h) (fun _ _ h hu => ⟨(h.1).up hu, hu.cell (h.2.1), hu.cell (h.2.2.1), (h.2.2.2.1).up hu, (h.2.2.2.2.1).up hu, (h.2.2.2.2.2.1).up hu, (h.2.2.2.2.2.2.1).up hu, below_up (h.2.2.2.2.2.2.2) hu⟩) hSS (Or.inl ⟨by rfl, fun w' hSw => yu_call ?_ (HIn.out _ _ hSw.2.2.2.2.1)⟩) ?_
                · go_simp
                try simp only [Act.put, List.setIfInBounds_toArray, List.set_cons_zero, List.set_cons_succ]
                refine wpAnyU_pure (i := 9) (d := (some 61)) (v := ?_) rfl rfl (by kernel_rfl) (fun _ _ _ h => h) (fun _ _ h hu => ⟨(h.1).up hu, hu.cell (h.2.1), hu.cell (h.2.2.1), (h.2.2.2.1).up hu, (h.2.2.2.2.1).up hu, (h.2.2.2.2.2.1).up hu, (h.2.2.2.2.2.2.1).up hu, below_up (h.2.2.2.2.2.2.2) hu⟩) (Or.inl ⟨by rfl, fun w' _ => yu_value ?_⟩) ?_
                rotate_left
                · (go_simp; (try exact rfl))
                try simp only [Act.put, List.setIfInBounds_toArray, List.set_cons_zero, List.set_cons_succ]
                refine wpAnyU_pure (i := 10) (d := (some 71)) (v := ?_) rfl rfl (by kernel_rfl) (fun _ _ _ h => h) (fun _ _ h hu => ⟨(h.1).up hu, hu.cell (h.2.1), hu.cell (h.2.2.1), (h.2.2.2.1).up hu, (h.2.2.2.2.1).up hu, (h.2.2.2.2.2.1).up hu, (h.2.2.2.2.2.2.1).up hu, below_up (h.2.2.2.2.2.2.2) hu⟩) (Or.inl ⟨by rfl, fun w' _ => yu_value ?_⟩) ?_
                rotate_left
                · (go_simp; (try exact rfl))
                try simp only [Act.put, List.setIfInBounds_toArray, List.set_cons_zero, List.set_cons_succ]
                refine wpAnyU_pure (i := 11) (d := (some 72)) (v := ?_) rfl rfl (by kernel_rfl) (fun _ _ _ h => h) (fun _ _ h hu => ⟨(h.1).up hu, hu.cell (h.2.1), hu.cell (h.2.2.1), (h.2.2.2.1).up hu, (h.2.2.2.2.1).up hu, (h.2.2.2.2.2.1).up hu, (h.2.2.2.2.2.2.1).up hu, below_up (h.2.2.2.2.2.2.2) hu⟩) (Or.inl ⟨by rfl, fun w' _ => yu_value ?_⟩) ?_
                rotate_left
                · (go_simp; (try exact rfl))
                try simp only [Act.put, List.setIfInBounds_toArray, List.set_cons_zero, List.set_cons_succ]
                refine wpAnyU_pure (i := 12) (d := (some 73)) (v := ?_) rfl rfl (by kernel_rfl) (fun _ _ _ h => h) (fun _ _ h hu => ⟨(h.1).up hu, hu.cell (h.2.1), hu.cell (h.2.2.1), (h.2.2.2.1).up hu, (h.2.2.2.2.1).up hu, (h.2.2.2.2.2.1).up hu, (h.2.2.2.2.2.2.1).up hu, below_up (h.2.2.2.2.2.2.2) hu⟩) (Or.inl ⟨by rfl, fun w' _ => yu_value ?_⟩) ?_
                rotate_left
                · (go_simp; (try exact rfl))
                try simp only [Act.put, List.setIfInBounds_toArray, List.set_cons_zero, List.set_cons_succ]
                refine wpAnyU_one (i := 13) rfl (by kernel_rfl) (by rfl) fun wZ hwZ => ?_
                obtain ⟨hcW, hfW⟩ := (hS6.up hwZ).cells hkM
                go_simp
                clear hcW hfW
                refine wpAnyU_done (by kernel_rfl) (fun wF huE => ?_) _
                have hne1 : w.heap.size ≠ g := by omega
                have hne2 : w.heap.size + 1 ≠ g := by omega
                have hO5 := ((hS6.up hwZ).set hkM z9).up huE
                rw [HS9.out] at hO5
                have hB5 := ((hS1.up hwZ).other ⟨g, k, none⟩ (.int .i64 z9) hne1).up huE
                have hQ5 := ((hS7.up hwZ).other ⟨g, k, none⟩ (.int .i64 z9) hne2).up huE
                have hU5 := below_up ((below_up hSB hwZ).setCell (p := ⟨g, k, none⟩) (show w.heap.size ≤ g by omega) (.int .i64 z9)) huE
                clear hq0 hq1 hwZ
                go_wp2_with fail
                go_roundg (n - (j + 1))
                case measure => omega
                case rel => exact ⟨j + 1, by omega, by omega, Nat.le_refl _, rfl, by rw [pos_succ hij, HK.out]; exact ⟨hO5, fun q hq => by rcases Nat.lt_succ_iff_lt_or_eq.1 hq with h1 | h1; exact HFit.out q h1; rw [h1, HZ9.out]; exact Hf.out, hB5, hQ5, hU5⟩⟩
            · obtain rfl : j = n := by omega
              have HP := hid (pos_row hlt)
              go_wp2_with fail
              go_roundg (j - (i + 1))
              case measure => omega
              case rel => exact ⟨i + 1, hlt, Nat.le_refl _, rfl, by rw [← HP.out]; exact ⟨hO, hfits, hB, hQ, hU⟩⟩
        · obtain rfl : i = n := by omega
          rw [pos_end, ← HLn.out, ← HlL.out] at hO hfits
          rw [mixed_all HlL.out] at hO
          have HI := hid (In64.of_fit hfits)
          have HG := hid (Hgood.out hfits)
          clear hfits hlt
          go_wp2_with (first
            | ((with_reducible apply ldM_P); exact rfl; exact rfl; exact hB; exact rfl)
            | ((with_reducible apply stM_P); exact rfl; exact rfl; exact hQ; exact rfl; exact rfl; exact two2 _ _ _ _ _))
          rw [HG.out]
          exact bodyPost_ret (resMs (u := .int .i64 0) rfl rfl rfl (hQ.setRow _) rfl) rfl (RSymPost.ok hU (by omega) hQ hO HN64.out HI.out (by rw [HlL.out]; exact hlen))
    · have e : ouC N l x h = 23 := by unfold ouC; rw [hR, decide_eq_false hn0]; rfl
      have e2 : ouR N l x h = [] := by unfold ouR; rw [e]; rfl
      have e3 : ouN N l x h = 0 := by unfold ouN; rw [e]; rfl
      rw [e, e2, e3]
      have d3 : ((h.length : Int) != N) = true := by simpa using hn0
      clear e e2 e3 hR hc hl hN hI hn0
      go_enter Tryz.func14, Tryz.ntmps14
      go_wp2_with (first
        | ((with_reducible apply ldM_P); exact rfl; exact rfl; exact hB; exact rfl)
        | (go_at_call 26; (with_reducible refine (HR.out _ hU).mono ?_); rintro r w1 ⟨rfl, hu1⟩; replace hQ := hQ.up hu1; replace hB := hB.up hu1; have hc0 := hB.cell 0 rfl)
        | ((with_reducible apply stM_P); exact rfl; exact rfl; exact hQ; exact rfl; exact rfl; exact two2 _ _ _ _ _))
      exact bodyPost_ret (resMs (u := .int .i64 23) rfl rfl rfl (hQ.setRow _) rfl) rfl (RSymPost.err 23 (hU.trans hu1) (by omega))
end Go.Proofs.YtdcpoamjmoceiaaGreatDoor
/-
  Symmetric matrices: leadlinelaw5.known; what is right stays so.
-/
namespace Go.Proofs.YtdcpoamjmoceiaaGreatDoor
open Go Go.RowKit
set_option maxRecDepth 100000
set_option maxRecDepth 100000

theorem Vw.two (w : World) (a b : Int) : Vw (w.alloc (.cells #[.int .i64 a, .int .i64 b] 2)) (.slice (some ⟨w.heap.size, 0, none⟩) 2 2) [a, b] := by
  refine ⟨_, 2, rfl, ⟨Nat.le_refl _, fun e => by cases e⟩, fun i hi => ⟨_, rfl, ?_⟩⟩
  rcases i with _ | _ | i
  · simp [zth, Addr.add]
  · simp [zth, Addr.add]
  · simp at hi; omega
theorem light_any {N : Int} {s : Value} {n : Nat} {p : Option Addr} {c : Nat} (w : World) (hs : s = .slice p n c) :
    Calls Tryz.prog 9 #[.agg #[.int .i64 N, s]] w fun r w' => r = .returned (.bool (decide (n ≤ 60))) ∧ Up w w' := by
  subst hs
  by_cases h : n ≤ 60
  · rw [show decide (n ≤ 60) = true from decide_eq_true h]
    have d : decide ((n : Int) ≤ 60) = true := decide_eq_true (by omega)
    go_enter Tryz.func9, Tryz.ntmps9
    go_wp2_with fail
    go_ret
    exact ⟨by first | rfl | simp [d], Up.alloc _ _⟩
  · rw [show decide (n ≤ 60) = false from decide_eq_false h]
    have d : decide ((n : Int) ≤ 60) = false := decide_eq_false (by omega)
    go_enter Tryz.func9, Tryz.ntmps9
    go_wp2_with fail
    go_ret
    exact ⟨by first | rfl | simp [d], Up.alloc _ _⟩
theorem k_ou : ouC 2 (zeros 2) 3 [1, -1] = 0 ∧ ouR 2 (zeros 2) 3 [1, -1] = [3, -3, 3] ∧ ouN 2 (zeros 2) 3 [1, -1] = 2 := by decide +kernel
theorem k_at1 : atC 2 [3, -3, 3] 1 0 = 0 ∧ atV 2 [3, -3, 3] 1 0 = -3 := by decide +kernel
theorem k_at2 : atC 2 [3, -3, 3] 2 0 = 20 ∧ atV 2 [3, -3, 3] 2 0 = 0 := by decide +kernel
theorem k_rt : rt 2 [3, -3, 3] = true ∧ rt 1 [] = false := by decide +kernel
theorem Errs.zero {w : World} {u : Value} (h : Errs w u 0) : u = .nilIface := by
  rcases h with ⟨_, h⟩ | ⟨h, _⟩
  · exact h
  · exact absurd rfl h
theorem Errs.some2 {w : World} {u : Value} {e : Int} (h : Errs w u e) (h0 : e ≠ 0) : ∃ t x, u = .iface t x := by
  rcases h with ⟨h, _⟩ | ⟨_, t, x, h, _⟩
  · exact absurd h h0
  · exact ⟨t, x, h⟩
theorem in64_two : In64 [1, -1] := by
  intro i hi
  rcases i with _ | _ | i
  · unfold I64; decide
  · unfold I64; decide
  · simp at hi; omega
theorem sm_one (w : World) : Sm w (.agg #[.int .i64 1, .slice none 0 0]) 1 [] :=
  ⟨_, rfl, ⟨none, 0, rfl, ⟨Nat.le_refl _, fun _ => rfl⟩, fun i hi => absurd hi (Nat.not_lt_zero _)⟩, by unfold I64; omega, fun i hi => absurd hi (Nat.not_lt_zero _), by simp⟩
set_option maxHeartbeats 4000000 in
theorem known_true {w : World} (hg : Glob w) :
    Calls Tryz.prog 8 #[] w fun r w' => r = .returned (.bool true) ∧ Up w w' := by
  have HG := hid (fun w' (hu : Up w w') => hg.up hu)
  have HA1 := hid (fun (v : Value) (w : World) (h : Sm w v 2 [3, -3, 3]) => k_at1.1 ▸ k_at1.2 ▸ at_any 1 0 h)
  have HA2 := hid (fun (v : Value) (w : World) (h : Sm w v 2 [3, -3, 3]) => k_at2.1 ▸ k_at2.2 ▸ at_any 2 0 h)
  have HR1 := hid (fun (v : Value) (w : World) (h : Sm w v 2 [3, -3, 3]) => k_rt.1 ▸ sright_any h)
  have HR2 := hid (fun (w : World) => k_rt.2 ▸ sright_any (sm_one w))
  clear hg
  go_enter Tryz.func8, Tryz.ntmps8
  go_wp2_with (first
    | ((with_reducible apply ldM_P); exact rfl; exact rfl; (first | exact hb3 | exact hb4 | exact hb8); exact rfl)
    | ((with_reducible apply stM_P); exact rfl; exact rfl; exact hb2; exact rfl; exact rfl; exact two2 _ _ _ _ _)
    | (go_at_call 39; (with_reducible refine (new_any 2 _).mono ?_); rintro r w1 ⟨z1, rfl, hu1, hs1⟩; rw [show nw 2 = 2 from by decide] at hs1)
    | (go_at_call 13; (with_reducible refine (outer_any 3 (Sm.up (Up.alloc _ _) hs1) (Vw.two w1 1 (-1)) (by unfold I64; decide) in64_two (by decide)).mono ?_); rintro r w2 ⟨z2, u2, rfl, hu2, hs2, he2⟩; rw [k_ou.1] at he2; rw [k_ou.2.1, k_ou.2.2] at hs2; obtain rfl := he2.zero; obtain ⟨s2, rfl, hv2, hr2⟩ := hs2.sm; have hv2' := hv2; obtain ⟨p2, c2, rfl, _⟩ := hv2'; replace hv2 : Vw w2 (.slice p2 3 c2) [3, -3, 3] := hv2; have hb2 := Blk.new (w := w2) (b := w2.heap.size) 24 #[.int .i64 0, .slice none 0 0] rfl; have hX := below_setRow (Up.alloc w2 (.cells #[.int .i64 0, .slice none 0 0] 24)) (Nat.le_refl _) #[.int .i64 2, .slice p2 3 c2]; have hb3 := hb2.setRow #[.int .i64 2, .slice p2 3 c2]; have hs3 : Sm _ (.agg #[.int .i64 2, .slice p2 3 c2]) 2 [3, -3, 3] := ⟨_, rfl, hv2.up hX, hr2⟩; have hU3 := ((hu1.trans (Up.alloc _ _)).trans hu2).trans hX)
    | (go_at_call 40; first
        | ((with_reducible refine (HA1.out _ _ hs3).mono ?_); rintro r w4 ⟨u4, rfl, hu4, he4⟩; obtain rfl := he4.zero; have hs4 := hs3.up hu4; have hb4 := hb3.up hu4; have hU4 := hU3.trans hu4)
        | ((with_reducible refine (HA2.out _ _ hs4).mono ?_); rintro r w5 ⟨u5, rfl, hu5, he5⟩; obtain ⟨t5, x5, rfl⟩ := he5.some2 (by decide); have hs5 := hs4.up hu5; have hb5 := hb4.up hu5; have hU5 := hU4.trans hu5))
    | (go_at_call 19; (with_reducible refine (says_any he5 (HG.out _ hU5)).mono ?_); rintro r w6 ⟨rfl, hu6⟩; have hs6 := hs5.up hu6; have hb6 := hb5.up hu6; have hc61 := hb6.cell 1 rfl; have hU6 := hU5.trans hu6; have hv6 := (hv2.up hX).up ((hu4.trans hu5).trans hu6))
    | (go_at_call 41; (with_reducible refine (ints_eq (Vw.up (Up.alloc _ _) hv6) (vw_three w6 3 (-3) 3) (by decide)).mono ?_); rintro r w7 ⟨rfl, hu7⟩; have hs8 := (hs6.up (Up.alloc _ _)).up hu7; have hb8 := (hb6.up (Up.alloc _ _)).up hu7; have hU8 := (hU6.trans (Up.alloc _ _)).trans hu7)
    | (go_at_call 42; first
        | ((with_reducible refine (HR1.out _ _ hs8).mono ?_); rintro r w9 ⟨rfl, hu9⟩)
        | ((with_reducible refine (HR2.out _).mono ?_); rintro r wA ⟨rfl, huA⟩)))
  go_ret
  exact ⟨rfl, (hU8.trans hu9).trans huA⟩
end Go.Proofs.YtdcpoamjmoceiaaGreatDoor
/-
  leadlineseat.Sym: it tells a matrix that is right.
-/
namespace Go.Proofs.YtdcpoamjmoceiaaGreatDoor
open Go Go.RowKit
set_option maxRecDepth 100000
set_option maxRecDepth 100000

/-- The value v is a slice of the small numbers l, in world w. -/
def Vh (w : World) (v : Value) (l : List Int) : Prop :=
  ∃ p cap, v = .slice p l.length cap ∧ ∀ i, i < l.length → ∃ a, p = some a ∧ w.cell? (a.add i) = some (.int .i16 (zth l i))
def In16 (l : List Int) : Prop := ∀ i, i < l.length → -32768 ≤ zth l i ∧ zth l i < 32768
theorem rt_zero : rt 0 [] = true := by decide
theorem rt_of {N : Int} {l l' : List Int} (h : rt N l = true) (hl : l'.length = l.length) (hf : l'.all fit = true) : rt N l' = true := by
  obtain ⟨h1, h2, h3, _⟩ := rt_spec h
  rw [rt_yes ⟨h1, h2, by rw [hl]; exact h3⟩]
  exact hf
theorem di_rt (N : Int) (l : List Int) (x : Int) : rt (diN N l x) (diR N l x) = true := by
  unfold diN diR
  by_cases h : diC N l x = 0
  · rw [if_pos h, if_pos h]
    unfold diC at h
    cases hr : rt N l with
    | false => rw [hr] at h; simp at h
    | true =>
      rw [hr] at h
      cases hf : (diL N.toNat l x).all fit with
      | false => rw [hf] at h; simp at h
      | true => exact rt_of hr (diL_len _ _ _) hf
  · rw [if_neg h, if_neg h]; exact rt_zero
theorem ou_rt (N : Int) (l : List Int) (x : Int) (h : List Int) : rt (ouN N l x h) (ouR N l x h) = true := by
  unfold ouN ouR
  by_cases h0 : ouC N l x h = 0
  · rw [if_pos h0, if_pos h0]
    unfold ouC at h0
    cases hr : rt N l with
    | false => rw [hr] at h0; simp at h0
    | true =>
      rw [hr, Bool.true_and] at h0
      split at h0
      · cases hf : (ouL N.toNat l x h).all fit with
        | false => rw [hf] at h0; simp at h0
        | true => exact rt_of hr (ouL_len _ _ _ _) hf
      · simp at h0
  · rw [if_neg h0, if_neg h0]; exact rt_zero
theorem vw_one (w : World) (a : Int) : Vw (w.alloc (.cells #[.int .i64 a] 2)) (.slice (some ⟨w.heap.size, 0, none⟩) 1 1) [a] := by
  refine ⟨_, 1, rfl, ⟨Nat.le_refl _, fun e => by cases e⟩, fun i hi => ⟨_, rfl, ?_⟩⟩
  rcases i with _ | i
  · simp [zth, Addr.add]
  · simp at hi
theorem In64.snoc {l : List Int} (h : In64 l) {z : Int} (hz : I64 z) : In64 (l ++ [z]) := by
  intro i hi
  rcases Nat.lt_or_ge i l.length with h1 | h1
  · have e : zth (l ++ [z]) i = zth l i := by rw [zth_get hi, List.getElem_append_left h1, ← zth_get h1]
    rw [e]; exact h i h1
  · have e : zth (l ++ [z]) i = z := by
      rw [zth_get hi, List.getElem_append_right h1]
      simp
    rw [e]; exact hz
def SeatPost (w : World) (r : Ending) (w' : World) : Prop := ∃ z N L, r = .returned z ∧ Up w w' ∧ SmO w' z N L ∧ rt N L = true
/-- The variable in block b holds a matrix that is right. -/
def MInv (b : Nat) (w : World) : Prop := ∃ N s L, Blk w b 24 #[.int .i64 N, s] ∧ SmO w (.agg #[.int .i64 N, s]) N L ∧ rt N L = true
set_option maxHeartbeats 8000000 in
theorem seat_any {v : Value} {hs : List Int} (n d : Nat) {w : World} (hn : n < 256) (hd : d < 65536) (hv : Vh w v hs) (h16 : In16 hs) (h60 : hs.length ≤ 60) :
    Calls Tryz.prog 10 #[.int .u8 (n : Nat), .int .u16 (d : Nat), v] w (SeatPost w) := by
  obtain ⟨k, hk⟩ : ∃ r, n % 7 = r := ⟨_, rfl⟩
  obtain ⟨dd, hdd⟩ : ∃ r, d % 5000 = r := ⟨_, rfl⟩
  have rk : (n : Int).tmod 7 = (k : Nat) := by rw [show (7 : Int) = ((7 : Nat) : Int) from rfl, ← Int.ofNat_tmod, hk]
  have rd : (d : Int).tmod 5000 = (dd : Nat) := by rw [show (5000 : Int) = ((5000 : Nat) : Int) from rfl, ← Int.ofNat_tmod, hdd]
  have lk : k < 7 := by omega
  have ld : dd < 5000 := by omega
  have ek : IntKind.i64.wrap (k : Int) = (k : Nat) := IntWalk.i64_in _ (by omega)
  have ed : IntKind.i64.wrap (dd : Int) = (dd : Nat) := IntWalk.i64_in _ (by omega)
  have Hhv := hid hv
  have H16 := hid h16
  obtain ⟨p, cap, rfl, hc⟩ := hv
  have HC := hid (fun w' (hu : Up w w') (i : Nat) (hi : i < hs.length) => (show ∃ a, p = some a ∧ w'.cell? (a.add i) = some (.int .i16 (zth hs i)) from by obtain ⟨a, h1, h2⟩ := hc i hi; exact ⟨a, h1, hu.cellEq h2⟩))
  clear hk hdd hc h16
  obtain ⟨W0, hW0⟩ : ∃ W0, w.alloc (.cells #[.int .i64 0, .slice none 0 0] 24) = W0 := ⟨_, rfl⟩
  have hQ : Blk W0 w.heap.size 24 #[.int .i64 0, .slice none 0 0] := by rw [← hW0]; exact Blk.new _ _ rfl
  have hU : Up w W0 := by rw [← hW0]; exact Up.alloc _ _
  go_enter Tryz.func10, Tryz.ntmps10
  go_wp2_with (first
    | (go_at_call 37; (with_reducible refine (rnew_any (k : Int) _).mono ?_); rintro r w1 ⟨z1, rfl, hu1, hs1⟩)
    | (go_at_call 16; (with_reducible refine (rdiag_any (dd : Int) hs1 (by unfold I64; omega)).mono ?_); rintro r w2 ⟨z2, rfl, hu2, hs2⟩; have hrt2 := di_rt (nw k) (zeros (nw k)) dd; obtain ⟨s2, base2, rfl, hO2, hr2⟩ := hs2; obtain ⟨p2, n2, c2, rfl⟩ := OwnI.slice hO2)
    | ((with_reducible apply stM_P); exact rfl; exact rfl; exact Blk.new _ _ rfl; exact rfl; exact rfl; exact two2 _ _ _ _ _))
  obtain ⟨N2, hN2⟩ : ∃ N2, diN (nw k) (zeros (nw k)) dd = N2 := ⟨_, rfl⟩
  obtain ⟨L2, hL2⟩ : ∃ L2, diR (nw k) (zeros (nw k)) dd = L2 := ⟨_, rfl⟩
  obtain ⟨C2, hC2⟩ : ∃ C2, diC (nw k) (zeros (nw k)) dd = C2 := ⟨_, rfl⟩
  rw [hN2, hL2] at hrt2
  rw [hL2] at hO2
  rw [hN2, hL2] at hr2
  rw [hN2, hC2]
  clear hN2 hL2 hC2 hs1
  have hbn := Blk.new (w := w2) (b := w2.heap.size) 24 #[.int .i64 0, .slice none 0 0] rfl
  have hsm2 : SmO (w2.alloc (.cells #[.int .i64 0, .slice none 0 0] 24)) (.agg #[.int .i64 N2, .slice p2 n2 c2]) N2 L2 := ⟨_, base2, rfl, OwnI.up (Up.alloc _ _) hO2, hr2⟩
  have hux := hu1.trans hu2
  obtain ⟨b8, hb8⟩ : ∃ b, w2.heap.size = b := ⟨_, rfl⟩
  have hb8l : w.heap.size < b8 := by rw [← hb8]; exact Nat.lt_of_lt_of_le hQ.lt hux.size
  rw [hb8] at hbn
  refine wp_folded (fun wd => MInv b8 wd ∧ Blk wd w.heap.size 24 #[.int .i64 0, .slice none 0 0] ∧ Up w wd) ⟨⟨N2, _, L2, by rw [hb8]; exact hbn.setRow _, by rw [hb8]; exact hsm2.setRow hbn, hrt2⟩, by rw [hb8]; exact Blk.row_other ((hQ.up hux).old _) _ (by omega), by rw [hb8]; exact below_setRow ((hU.trans hux).trans (Up.alloc _ _)) (by omega) _⟩ (fun w3 hD => ?_)
  obtain ⟨hM, hQ3, hU3⟩ := hD
  rw [hb8]
  clear hbn hsm2 hux hb8 hO2 hr2 hrt2 hu1 hu2 hQ hU hW0 rk rd ed ld
  go_loopg [10] hs.length (fun g ti wr => ∃ i : Nat, i ≤ 60 ∧ hs.length - i ≤ g ∧ ti = .int .i64 (i : Nat) ∧ MInv b8 wr ∧ Blk wr w.heap.size 24 #[.int .i64 0, .slice none 0 0] ∧ Up w wr)
  case atStart => exact ⟨0, by omega, by omega, rfl, hM, hQ3, hU3⟩
  case round =>
    clear hM hQ3 hU3
    obtain ⟨i, hi, hig, rfl, ⟨N, s, L, hB, hS, hrt⟩, hQ, hU⟩ := hrel
    by_cases hbody : i + k ≤ hs.length ∧ 0 < k ∧ i < 4 * k
    · obtain ⟨g1, g2, g3⟩ := hbody
      have d1 : decide ((i : Int) + (k : Int) ≤ (hs.length : Int)) = true := decide_eq_true (by omega)
      have d2 : decide ((0 : Int) < (k : Int)) = true := decide_eq_true (by omega)
      have d3 : decide ((i : Int) < 4 * (k : Int)) = true := decide_eq_true (by omega)
      go_wp2_with fail
      obtain ⟨wS, rfl⟩ : ∃ x, x = wr := ⟨_, rfl⟩
      go_loopg [11, 12] k (fun g th tj wj => ∃ (j : Nat) (H : List Int), j ≤ k ∧ k - j ≤ g ∧ tj = .int .i64 (j : Nat) ∧ OwnI wj wS.heap.size th H ∧ H.length = j ∧ In64 H ∧ Up wS wj)
      case atStart => exact ⟨0, [], by omega, by omega, rfl, OwnI.nil _ _, rfl, fun i hi => absurd hi (Nat.not_lt_zero _), Up.refl _⟩
      case round =>
        obtain ⟨j, H, hj, hjg, rfl, hO, hH, hH64, hu⟩ := hrel
        have hsz := hu.size
        have HH := hid hH
        have HH64 := hid hH64
        clear hH hH64
        by_cases hlt : j < k
        · have hij : i + j < hs.length := by omega
          obtain ⟨a1, rfl, hc1⟩ := HC.out _ (hU.trans hu) (i + j) hij
          obtain ⟨q, hq⟩ : ∃ q, (zth hs (i + j)).tmod 200 = q := ⟨_, rfl⟩
          have hz := H16.out (i + j) hij
          have hq1 : -200 < q ∧ q < 200 := by rw [← hq]; have := Int.tmod_lt_of_pos (zth hs (i + j)) (show (0 : Int) < 200 by decide); have := Int.lt_tmod_of_pos (zth hs (i + j)) (show (0 : Int) < 200 by decide); omega
          have eq1 : IntKind.i64.wrap q = q := IntWalk.i64_in _ (by omega)
          have hT : ((i : Int) + (j : Int)).toNat = i + j := by omega
          have hT0 : (0 : Int) ≤ (i : Int) + (j : Int) := by omega
          have HQ1 := hid hq1
          generalize zth hs (i + j) = zz at *
          clear hq1
          go_wp2_with (first
            | ((with_reducible apply appV); exact rfl; exact rfl; exact OwnI.up (Up.alloc _ _) hO; exact vw_one _ _; (focus (simp; omega)); (focus (rw [HH.out]; omega)); (focus (simp; done)); rintro v' w' h1 h2; have hu9 : Up wS w' := Below.trans (hu.trans (Up.alloc _ _)) h2))
          go_roundg (k - (j + 1))
          case measure => omega
          case rel => exact ⟨j + 1, H ++ [q], by omega, Nat.le_refl _, rfl, h1, by rw [List.length_append, HH.out]; rfl, In64.snoc HH64.out (by have := HQ1.out; unfold I64; omega), hu9⟩
        · obtain rfl : j = k := by omega
          obtain ⟨r3, hr3⟩ : ∃ r, i % 3 = r := ⟨_, rfl⟩
          have er3 : (i : Int).tmod 3 = (r3 : Nat) := by rw [show (3 : Int) = ((3 : Nat) : Int) from rfl, ← Int.ofNat_tmod, hr3]
          have lr3 : r3 < 3 := by omega
          obtain ⟨x3, hx3⟩ : ∃ x : Int, 1 + (r3 : Int) = x := ⟨_, rfl⟩
          have HX3 : Hid (I64 x3) := hid (by unfold I64; omega)
          obtain ⟨ps, ns, cs, rfl⟩ : ∃ p n c, s = .slice p n c := by
            obtain ⟨s', base', e1, e2, _⟩ := hS
            obtain ⟨p', n', c', rfl⟩ := OwnI.slice e2
            injection e1 with e1
            simp at e1
            exact ⟨_, _, _, e1⟩
          have hB9 := hB.up hu
          have hS9 := hS.up hu
          have hQ9 := hQ.up hu
          have hU9 := hU.trans hu
          have HOU := hid (router_any x3 hS9.sm hO.vw HX3.out HH64.out (by rw [HH.out]; omega))
          have HRT := hid (ou_rt N L x3 H)
          clear hr3 hO hB hS hQ hU hu
          obtain ⟨CX, hCX⟩ : ∃ x, ouC N L x3 H = x := ⟨_, rfl⟩
          rw [hCX] at HOU
          obtain ⟨NX, hNX⟩ : ∃ x, ouN N L x3 H = x := ⟨_, rfl⟩
          obtain ⟨LX, hLX⟩ : ∃ x, ouR N L x3 H = x := ⟨_, rfl⟩
          rw [hNX, hLX] at HOU HRT
          clear hCX hNX hLX
          by_cases hcx : CX = 0
          · subst hcx
            go_wp2_with (first
              | ((with_reducible apply ldM_P); exact rfl; exact rfl; (first | exact hb13 | exact hB9); exact rfl)
              | (go_at_call 14; (with_reducible refine (HOU.out).mono ?_); rintro r w5 ⟨z5, rfl, hu5, hs5⟩; have hs5' := hs5; obtain ⟨s5, base5, rfl, hO5, hr5⟩ := hs5'; obtain ⟨p5, n5, c5, rfl⟩ := OwnI.slice hO5; have hbn5 := Blk.new (w := w5) (b := w5.heap.size) 24 #[.int .i64 0, .slice none 0 0] rfl; have hb13 := hbn5.setRow #[.int .i64 NX, .slice p5 n5 c5]; have hB5 := Blk.row_other ((hB9.up hu5).old (.cells #[.int .i64 0, .slice none 0 0] 24)) #[.int .i64 NX, .slice p5 n5 c5] (Nat.ne_of_lt (hB9.up hu5).lt); have hQ5 := Blk.row_other ((hQ9.up hu5).old (.cells #[.int .i64 0, .slice none 0 0] 24)) #[.int .i64 NX, .slice p5 n5 c5] (Nat.ne_of_lt (hQ9.up hu5).lt); have hsm5 := SmO.setRow (D := #[.int .i64 NX, .slice p5 n5 c5]) (SmO.up (Up.alloc w5 (.cells #[.int .i64 0, .slice none 0 0] 24)) hs5) hbn5; have hU5 := below_setRow (((hU9.trans hu5).trans (Up.alloc w5 (.cells #[.int .i64 0, .slice none 0 0] 24)))) (hU9.trans hu5).size #[.int .i64 NX, .slice p5 n5 c5])
              | ((with_reducible apply stM_P); exact rfl; exact rfl; (first | exact hbn5 | exact hB5); exact rfl; exact rfl; exact two2 _ _ _ _ _))
            go_roundg (hs.length - (i + j))
            case measure => omega
            case rel => exact ⟨i + j, by omega, Nat.le_refl _, rfl, ⟨NX, _, LX, hB5.setRow _, hsm5.setRow hB5, HRT.out⟩, Blk.row_other hQ5 _ (by omega), below_setRow hU5 (by omega) _⟩
          · have hcx' : (CX == 0) = false := by simpa using hcx
            go_wp2_with (first
              | ((with_reducible apply ldM_P); exact rfl; exact rfl; exact hB9; exact rfl)
              | (go_at_call 14; (with_reducible refine (HOU.out).mono ?_); rintro r w5 ⟨z5, rfl, hu5, hs5⟩; have hs5' := hs5; obtain ⟨s5, base5, rfl, hO5, hr5⟩ := hs5'; obtain ⟨p5, n5, c5, rfl⟩ := OwnI.slice hO5; have hbn5 := Blk.new (w := w5) (b := w5.heap.size) 24 #[.int .i64 0, .slice none 0 0] rfl; have hB5 := Blk.row_other ((hB9.up hu5).old (.cells #[.int .i64 0, .slice none 0 0] 24)) #[.int .i64 NX, .slice p5 n5 c5] (Nat.ne_of_lt (hB9.up hu5).lt); have hQ5 := Blk.row_other ((hQ9.up hu5).old (.cells #[.int .i64 0, .slice none 0 0] 24)) #[.int .i64 NX, .slice p5 n5 c5] (Nat.ne_of_lt (hQ9.up hu5).lt); have hsm5 := SmO.setRow (D := #[.int .i64 NX, .slice p5 n5 c5]) (SmO.up ((hu5.trans (Up.alloc w5 (.cells #[.int .i64 0, .slice none 0 0] 24)))) hS9) hbn5; have hU5 := below_setRow (((hU9.trans hu5).trans (Up.alloc w5 (.cells #[.int .i64 0, .slice none 0 0] 24)))) (hU9.trans hu5).size #[.int .i64 NX, .slice p5 n5 c5])
              | ((with_reducible apply stM_P); exact rfl; exact rfl; exact hbn5; exact rfl; exact rfl; exact two2 _ _ _ _ _))
            go_roundg (hs.length - (i + j))
            case measure => omega
            case rel => exact ⟨i + j, by omega, Nat.le_refl _, rfl, ⟨N, _, L, hB5, hsm5, hrt⟩, hQ5, hU5⟩
    · obtain ⟨s', base', e1, e2, e3⟩ := hS
      have e1' := e1
      obtain ⟨ps, ns, cs, rfl⟩ := OwnI.slice e2
      injection e1 with e1
      obtain rfl : s = .slice ps ns cs := by simpa using e1
      have hFO : SmO (wr.setRow w.heap.size #[.int .i64 N, .slice ps ns cs]) (.agg #[.int .i64 N, .slice ps ns cs]) N L := SmO.setRow ⟨_, base', rfl, e2, e3⟩ hQ
      have HFO := hid hFO
      clear e1 e2 e3 e1' hFO
      by_cases c1 : i + k ≤ hs.length
      · by_cases c2 : 0 < k
        · have c3 : ¬ i < 4 * k := fun h => hbody ⟨c1, c2, h⟩
          have d3 : decide ((i : Int) < 4 * (k : Int)) = false := decide_eq_false (by omega)
          clear hbody
          go_wp2_with (first
            | ((with_reducible apply ldM_P); exact rfl; exact rfl; exact hB; exact rfl)
            | ((with_reducible apply stM_P); exact rfl; exact rfl; exact hQ; exact rfl; exact rfl; exact two2 _ _ _ _ _))
          exact bodyPost_ret (resM rfl rfl (hQ.setRow _) rfl) rfl ⟨_, N, L, rfl, below_setRow hU (Nat.le_refl _) _, HFO.out, hrt⟩
        · clear hbody
          go_wp2_with (first
            | ((with_reducible apply ldM_P); exact rfl; exact rfl; exact hB; exact rfl)
            | ((with_reducible apply stM_P); exact rfl; exact rfl; exact hQ; exact rfl; exact rfl; exact two2 _ _ _ _ _))
          exact bodyPost_ret (resM rfl rfl (hQ.setRow _) rfl) rfl ⟨_, N, L, rfl, below_setRow hU (Nat.le_refl _) _, HFO.out, hrt⟩
      · clear hbody
        go_wp2_with (first
          | ((with_reducible apply ldM_P); exact rfl; exact rfl; exact hB; exact rfl)
          | ((with_reducible apply stM_P); exact rfl; exact rfl; exact hQ; exact rfl; exact rfl; exact two2 _ _ _ _ _))
        exact bodyPost_ret (resM rfl rfl (hQ.setRow _) rfl) rfl ⟨_, N, L, rfl, below_setRow hU (Nat.le_refl _) _, HFO.out, hrt⟩
end Go.Proofs.YtdcpoamjmoceiaaGreatDoor
/-
  leadlineseat.Vec: as many numbers as there are rows.
-/
namespace Go.Proofs.YtdcpoamjmoceiaaGreatDoor
open Go Go.RowKit
set_option maxRecDepth 100000
set_option maxRecDepth 100000

theorem zth_ext {l m : List Int} (h : l.length = m.length) (h2 : ∀ i, i < l.length → zth l i = zth m i) : l = m := by
  refine List.ext_getElem h fun i h1 h3 => ?_
  have := h2 i h1
  rwa [zth_get h1, zth_get h3] at this
def vecV (l : List Int) (sm : Bool) (i : Nat) : Int := let v := if i < l.length then zth l i else (i : Int); if sm then v.tmod 1000000 else v
def vecL (l : List Int) (sm : Bool) : Nat → List Int
  | 0 => []
  | i + 1 => vecL l sm i ++ [vecV l sm i]
theorem vecL_len (l : List Int) (sm : Bool) : ∀ n, (vecL l sm n).length = n := by
  intro n
  induction n with
  | zero => rfl
  | succ n ih => show (vecL l sm n ++ [vecV l sm n]).length = _; rw [List.length_append, ih]; rfl
theorem tmod_bound (v : Int) {m : Int} (hm : 0 < m) : -m < v.tmod m ∧ v.tmod m < m := by
  have h1 := Int.tmod_lt_of_pos v hm
  have h2 := Int.neg_tmod v m
  have h3 := Int.tmod_lt_of_pos (-v) hm
  omega
theorem vecV_in {l : List Int} (h : In64 l) (sm : Bool) {i : Nat} (hi : i < 1000000) : I64 (vecV l sm i) := by
  have h0 : I64 (if i < l.length then zth l i else (i : Int)) := by
    split
    · rename_i h1; exact h i h1
    · unfold I64; omega
  unfold vecV
  cases sm with
  | true =>
    have := tmod_bound (if i < l.length then zth l i else (i : Int)) (m := 1000000) (by decide)
    simp only [if_true]
    unfold I64; omega
  | false => simpa using h0
theorem vecL_in {l : List Int} (h : In64 l) (sm : Bool) : ∀ n, n ≤ 1000000 → In64 (vecL l sm n) := by
  intro n
  induction n with
  | zero => intro _ i hi; exact absurd hi (Nat.not_lt_zero _)
  | succ n ih => intro hn; exact (ih (by omega)).snoc (vecV_in h sm (by omega))
set_option maxHeartbeats 8000000 in
theorem vec_any {s : Value} {p : Option Addr} {nn cc : Nat} {vl : Value} {l : List Int} (n : Nat) (sm : Bool) {w : World} (hs : s = .slice p nn cc) (hn : n ≤ 8) (hl : Vw w vl l) (hI : In64 l) (_ : l.length ≤ 60) :
    Calls Tryz.prog 11 #[.agg #[.int .i64 (n : Nat), s], vl, .bool sm] w fun r w' => ∃ z b, r = .returned z ∧ Up w w' ∧ w.heap.size ≤ b ∧ OwnI w' b z (vecL l sm n) := by
  subst hs
  have HV := hid hl
  obtain ⟨q, cq, rfl, -, hcq⟩ := hl
  have HB := hid (Blk.new (w := w) (b := w.heap.size) 24 #[.int .i64 (n : Nat), .slice p nn cc] rfl)
  have HC := hid (fun w' (hu : Up w w') i (hi : i < l.length) => show ∃ ad, q = some ad ∧ w'.cell? (ad.add i) = some (.int .i64 (zth l i)) from by obtain ⟨a, h1, h2⟩ := hcq i hi; exact ⟨a, h1, hu.cellEq h2⟩)
  have HX := hid (Up.alloc w (.cells #[.int .i64 (n : Nat), .slice p nn cc] 24))
  clear hcq
  go_enter Tryz.func11, Tryz.ntmps11
  go_wp2_with fail
  obtain ⟨wS, hwS⟩ : ∃ x, w.alloc (.cells #[.int .i64 (n : Nat), .slice p nn cc] 24) = x := ⟨_, rfl⟩
  rw [hwS] at HB HX ⊢
  clear hwS
  go_loopg [7, 8] n (fun g tz ti wr => ∃ i : Nat, i ≤ n ∧ n - i ≤ g ∧ ti = .int .i64 (i : Nat) ∧ OwnI wr wS.heap.size tz (vecL l sm i) ∧ Up wS wr)
  case atStart => exact ⟨0, Nat.zero_le _, by omega, rfl, OwnI.nil _ _, Up.refl _⟩
  case round =>
    obtain ⟨i, hi, hig, rfl, hO, hu⟩ := hrel
    have hBr := HB.out.up hu
    have hBr0 := hBr.cell 0 rfl
    have hsz := hu.size
    by_cases hlt : i < n
    · have eV : vecL l sm (i + 1) = vecL l sm i ++ [vecV l sm i] := rfl
      have HE := hid eV
      have HL : Hid ((vecL l sm i).length ≤ 8) := hid (by rw [vecL_len]; omega)
      have HI9 := hid (vecV_in hI sm (i := i) (by omega))
      clear eV
      by_cases hil : i < l.length
      · obtain ⟨ad, rfl, hcx⟩ := HC.out _ (HX.out.trans hu) i hil
        have dil : decide ((i : Int) < (l.length : Int)) = true := decide_eq_true (by omega)
        have hv : vecV l sm i = if sm then (zth l i).tmod 1000000 else zth l i := by unfold vecV; rw [if_pos hil]
        generalize zth l i = z at *
        cases sm with
        | true =>
          rw [if_pos rfl] at hv
          rw [hv] at HE HI9
          clear hv
          go_wp2_with (first
            | ((with_reducible apply appV); exact rfl; exact rfl; exact OwnI.up (Up.alloc _ _) hO; exact vw_one _ _; (focus (simp; omega)); (focus (have := HL.out; omega)); (focus (simp; done)); rintro v' w' h1 h2; have hu9 : Up wS w' := Below.trans (hu.trans (Up.alloc _ _)) h2))
          go_roundg (n - (i + 1))
          case measure => omega
          case rel => exact ⟨i + 1, by omega, Nat.le_refl _, rfl, by rw [HE.out]; exact h1, hu9⟩
        | false =>
          rw [if_neg (by decide)] at hv
          rw [hv] at HE HI9
          clear hv
          go_wp2_with (first
            | ((with_reducible apply appV); exact rfl; exact rfl; exact OwnI.up (Up.alloc _ _) hO; exact vw_one _ _; (focus (simp; omega)); (focus (have := HL.out; omega)); (focus (simp; done)); rintro v' w' h1 h2; have hu9 : Up wS w' := Below.trans (hu.trans (Up.alloc _ _)) h2))
          go_roundg (n - (i + 1))
          case measure => omega
          case rel => exact ⟨i + 1, by omega, Nat.le_refl _, rfl, by rw [HE.out]; exact h1, hu9⟩
      · have dil : decide ((i : Int) < (l.length : Int)) = false := decide_eq_false (by omega)
        have hv : vecV l sm i = if sm then (i : Int).tmod 1000000 else (i : Int) := by unfold vecV; rw [if_neg hil]
        cases sm with
        | true =>
          rw [if_pos rfl] at hv
          rw [hv] at HE HI9
          clear hv
          go_wp2_with (first
            | ((with_reducible apply appV); exact rfl; exact rfl; exact OwnI.up (Up.alloc _ _) hO; exact vw_one _ _; (focus (simp; omega)); (focus (have := HL.out; omega)); (focus (simp; done)); rintro v' w' h1 h2; have hu9 : Up wS w' := Below.trans (hu.trans (Up.alloc _ _)) h2))
          go_roundg (n - (i + 1))
          case measure => omega
          case rel => exact ⟨i + 1, by omega, Nat.le_refl _, rfl, by rw [HE.out]; exact h1, hu9⟩
        | false =>
          rw [if_neg (by decide)] at hv
          rw [hv] at HE HI9
          clear hv
          go_wp2_with (first
            | ((with_reducible apply appV); exact rfl; exact rfl; exact OwnI.up (Up.alloc _ _) hO; exact vw_one _ _; (focus (simp; omega)); (focus (have := HL.out; omega)); (focus (simp; done)); rintro v' w' h1 h2; have hu9 : Up wS w' := Below.trans (hu.trans (Up.alloc _ _)) h2))
          go_roundg (n - (i + 1))
          case measure => omega
          case rel => exact ⟨i + 1, by omega, Nat.le_refl _, rfl, by rw [HE.out]; exact h1, hu9⟩
    · obtain rfl : i = n := by omega
      go_wp2_with fail
      go_ret
      exact ⟨_, _, rfl, HX.out.trans hu, HX.out.size, hO⟩
end Go.Proofs.YtdcpoamjmoceiaaGreatDoor
/-
  Symmetric matrices by the reference: a matrix times a list.
-/
namespace Go.Proofs.YtdcpoamjmoceiaaGreatDoor
open Go Go.RowKit
set_option maxRecDepth 100000
set_option maxRecDepth 100000

/-- How far the loops are: rows ahead of the i-th whole, j products in the i-th. -/
def tA (n : Nat) (l x : List Int) (i j : Nat) : List Int := mk n fun q => if q < i then tmS n l x q n else if q = i then tmS n l x i j else 0
theorem tA_len (n : Nat) (l x : List Int) (i j : Nat) : (tA n l x i j).length = n := mk_len _ _
theorem tA_zero (n : Nat) (l x : List Int) : tA n l x 0 0 = List.replicate n 0 := by
  refine zth_ext (by rw [tA_len, List.length_replicate]) fun q hq => ?_
  rw [tA_len] at hq
  unfold tA
  rw [mk_at hq, if_neg (by omega), zth_get (by rw [List.length_replicate]; exact hq), List.getElem_replicate]
  split <;> rfl
theorem tA_row (n : Nat) (l x : List Int) (i : Nat) : tA n l x i n = tA n l x (i + 1) 0 := by
  refine zth_ext (by rw [tA_len, tA_len]) fun q hq => ?_
  rw [tA_len] at hq
  unfold tA
  rw [mk_at hq, mk_at hq]
  by_cases h1 : q < i
  · rw [if_pos h1, if_pos (by omega)]
  · rw [if_neg h1]
    by_cases h2 : q = i
    · rw [if_pos h2, if_pos (by omega), h2]
    · rw [if_neg h2, if_neg (by omega)]
      split <;> rfl
theorem tA_all (n : Nat) (l x : List Int) : tA n l x n 0 = tmL n l x := by
  refine zth_ext (by rw [tA_len]; exact (mk_len _ _).symm) fun q hq => ?_
  rw [tA_len] at hq
  unfold tA tmL
  rw [mk_at hq, mk_at hq, if_pos hq]
theorem tA_at (n : Nat) (l x : List Int) {i : Nat} (j : Nat) (hi : i < n) : zth (tA n l x i j) i = tmS n l x i j := by
  unfold tA
  rw [mk_at hi, if_neg (by omega), if_pos rfl]
theorem tA_set (n : Nat) (l x : List Int) {i : Nat} (j k : Nat) (hi : i < n) : (tA n l x i j).set i (tmS n l x i k) = tA n l x i k := by
  refine zth_ext (by rw [List.length_set, tA_len, tA_len]) fun q hq => ?_
  rw [List.length_set, tA_len] at hq
  have e : zth ((tA n l x i j).set i (tmS n l x i k)) q = if i = q then tmS n l x i k else zth (tA n l x i j) q := by
    rw [zth_get (by rw [List.length_set, tA_len]; exact hq), List.getElem_set]
    split
    · rfl
    · rw [zth_get (by rw [tA_len]; exact hq)]
  rw [e]
  unfold tA
  rw [mk_at hq, mk_at hq]
  by_cases h1 : i = q
  · subst h1; rw [if_pos rfl, if_neg (by omega), if_pos rfl]
  · rw [if_neg h1, if_neg (show ¬ q = i by omega)]
    rw [if_neg (show ¬ q = i by omega)]
def RWidesPost (w : World) (l : List Int) (e : Int) (r : Ending) (w' : World) : Prop := ∃ z, r = .returned (.tuple #[z, .int .i64 e]) ∧ Up w w' ∧ Bv w' z l
theorem bv_nil (w : World) : Bv w (.slice none 0 0) [] := .inl ⟨rfl, none, 0, rfl⟩
set_option maxHeartbeats 8000000 in
theorem rtimes_w {v xv : Value} {N : Int} {l x : List Int} {w : World} (hm : Sm w v N l) (hh : Vw w xv x) (hI : In64 x) (hh3 : x.length ≤ 1000) :
    Calls Tryz.prog 18 #[v, xv] w (RWidesPost w (tmR N l x) (tmC N l x)) := by
  have HR := hid (fun w' (hu : Up w w') => rright_any (hm.up hu))
  have HSm := hid hm
  obtain ⟨s, rfl, hV, hN, hl, hlen⟩ := hm
  obtain ⟨p, cap, rfl, hcap, hc⟩ := hV
  have HH := hid hh
  obtain ⟨q, cq, rfl, _⟩ := hh
  obtain ⟨W0, hW0⟩ : ∃ W0, w.alloc (.cells #[.int .i64 N, .slice p l.length cap] 24) = W0 := ⟨_, rfl⟩
  have hB : Blk W0 w.heap.size 24 #[.int .i64 N, .slice p l.length cap] := by rw [← hW0]; exact Blk.new _ _ rfl
  have hU : Up w W0 := by rw [← hW0]; exact Up.alloc _ _
  cases hR : rt N l with
  | false =>
    have e : tmC N l x = 23 := by unfold tmC; rw [hR]; rfl
    have e2 : tmR N l x = [] := by unfold tmR; rw [e]; rfl
    rw [e, e2]
    rw [hR] at HR
    clear e e2 hR hc hl hN hI
    go_enter Tryz.func18, Tryz.ntmps18
    go_wp2_with (first
      | ((with_reducible apply ldM_P); exact rfl; exact rfl; exact hB; exact rfl)
      | (go_at_call 26; (with_reducible refine (HR.out _ hU).mono ?_); rintro r w1 ⟨rfl, hu1⟩))
    go_ret2
    exact ⟨_, rfl, hU.trans hu1, bv_nil _⟩
  | true =>
    rw [hR] at HR
    by_cases hn0 : (x.length : Int) = N
    · obtain ⟨n, rfl⟩ : ∃ n : Nat, N = (n : Int) := ⟨x.length, hn0.symm⟩
      have hxn : x.length = n := by omega
      obtain ⟨_, n8, htri, _⟩ := rt_spec hR
      have e : tmC n l x = 0 := by unfold tmC; rw [hR, decide_eq_true hn0]; rfl
      have e2 : tmR n l x = tmL n l x := by unfold tmR; rw [e, if_pos rfl]; rfl
      rw [e, e2]
      have d3 : ((x.length : Int) != (n : Int)) = false := by rw [hn0]; simp
      have HAT := hid (fun (i j : Nat) (hi : i < n) (hj : j < n) w' (hu : Up w w') => rat_ent (i : Int) (j : Int) (HSm.out.up hu) hR (show rng (n : Int) i j = true from decide_eq_true (by omega)))
      have HS := hid (fun i k (hi : i < n) (hk : k ≤ n) => tmS_bp hR hI hxn hi hk (by omega))
      have HEB := hid (fun (i j : Nat) (hi : i < n) (hj : j < n) => show I64 (ent n l i j) from by have := ent_fit hR hi hj; unfold I64; omega)
      have HI64 := hid hI
      have hn8 : n ≤ 8 := by omega
      clear e e2 hR hc hl hN hI hn0 htri n8
      go_enter Tryz.func18, Tryz.ntmps18
      go_wp2_with (first
        | ((with_reducible apply ldM_P); exact rfl; exact rfl; exact hB; exact rfl)
        | (go_at_call 26; (with_reducible refine (HR.out _ hU).mono ?_); rintro r w1 ⟨rfl, hu1⟩; replace hB := hB.up hu1; replace hU := hU.trans hu1; have hc0 := hB.cell 0 rfl)
        | ((with_reducible apply mkBs (n := n)); exact rfl; (focus omega); rintro w2 hO2 hu2))
      rw [← tA_zero n l x] at hO2
      obtain ⟨wS, hwS⟩ : ∃ y, w1 = y := ⟨_, rfl⟩
      rw [hwS] at hO2 hu2 hB hU ⊢
      clear hwS hc0 hu1 hW0
      obtain ⟨bO, hbO⟩ : ∃ y, wS.heap.size = y := ⟨_, rfl⟩
      rw [hbO] at hO2 ⊢
      go_loopg [7] n (fun g ti wr => ∃ i : Nat, i ≤ n ∧ n - i ≤ g ∧ ti = .int .i64 (i : Nat) ∧ OwnB wr bO (.slice (some ⟨bO, 0, none⟩) n n) (tA n l x i 0) ∧ Up wS wr)
      case atStart => exact ⟨0, Nat.zero_le _, by omega, rfl, hO2, hu2⟩
      case round =>
        clear hO2 hu2
        obtain ⟨i, hi, hig, rfl, hO, hu⟩ := hrel
        have hc0 := (hB.up hu).cell 0 rfl
        by_cases hlt : i < n
        · have e1 : IntKind.i64.wrap ((i : Int) + 1) = (i : Int) + 1 := IntWalk.i64_in _ (by omega)
          go_wp2_with fail
          go_loopg [8] n (fun g tj wr => ∃ j : Nat, j ≤ n ∧ n - j ≤ g ∧ tj = .int .i64 (j : Nat) ∧ OwnB wr bO (.slice (some ⟨bO, 0, none⟩) n n) (tA n l x i j) ∧ Up wS wr)
          case atStart => exact ⟨0, Nat.zero_le _, by omega, rfl, hO, hu⟩
          case round =>
            clear hO hu hc0
            obtain ⟨j, hj, hjg, rfl, hO, hu⟩ := hrel
            have hBr := hB.up hu
            have hc0 := hBr.cell 0 rfl
            by_cases hjlt : j < n
            · have e2 : IntKind.i64.wrap ((j : Int) + 1) = (j : Int) + 1 := IntWalk.i64_in _ (by omega)
              have hjx : j < x.length := by omega
              obtain ⟨q', cq', xq, _, hcq⟩ := HH.out
              injection xq with y1 y2 y3
              subst y1 y3
              obtain ⟨adx, rfl, -⟩ := hcq j hjx
              have HAd := hid (fun w' (hu : Up w w') => (show w'.cell? (adx.add j) = some (.int .i64 (zth x j)) from by obtain ⟨a2, z1, z2⟩ := hcq j hjx; injection z1 with z1; subst z1; exact hu.cellEq z2))
              have hlA := tA_len n l x i j
              obtain ⟨g, cp, C, hv, hbg, hBC, -, -, -, hE⟩ := hO.open (by omega)
              injection hv with x1 x2 x3
              injection x1 with x1
              injection x1 with x1
              subst x1
              obtain ⟨b0, p0, m0, c0, h1, h2, h3⟩ := hE i (by omega)
              rw [tA_at n l x j hlt] at h3
              have HRg := hid (fun w' (hB : Blk w' bO 61 C) => bigAt_range hB h1 h2)
              have hS1 := HS.out i j hlt hj
              have hS2 := HS.out i (j + 1) hlt hjlt
              have hei := HEB.out i j hlt hjlt
              have hxj := HI64.out j hjx
              have hpb : (ent n l i j * zth x j).natAbs < bp 2 := mul_bp1 (i64_bp hei) (i64_bp hxj)
              have HATi := hid (HAT.out i j hlt hjlt)
              have HO1 := hid (fun w => of_big (ent n l i j) hei.1 hei.2 w)
              have HO2 := hid (fun w => of_big (zth x j) hxj.1 hxj.2 w)
              have HM := hid (fun (va vb : Value) (w : World) (ha : Big w va (ent n l i j)) (hb : Big w vb (zth x j)) => mul_big ha hb (nl_bp (by omega) (i64_bp hei)) (nl_bp (by omega) (i64_bp hxj)))
              have HA := hid (fun (va vb : Value) (w : World) (ha : Big w va (tmS n l x i j)) (hb : Big w vb (ent n l i j * zth x j)) => add_big ha hb (nl_bp (by omega) hS1) (nl_bp (by omega) hpb))
              have HSet := hid (tA_set n l x j (j + 1) hlt)
              clear hcq hE h1 h2 hS1 hS2 hei hxj hpb y2 x2 x3
              obtain ⟨S2, hS29⟩ : ∃ y, tmS n l x i (j + 1) = y := ⟨_, rfl⟩
              have hS28 : tmS n l x i j + ent n l i j * zth x j = S2 := hS29
              have HS2 := hid hS29
              rw [hS28] at HA
              rw [hS29] at HSet
              clear hS29 hS28
              generalize tmS n l x i j = S1 at *
              obtain ⟨eij, heij⟩ : ∃ y, ent n l i j = y := ⟨_, rfl⟩
              rw [heij] at HATi HO1 HM HA
              clear heij
              generalize zth x j = xj at *
              go_wp2_with fail
              refine wp_region_sp (n := 54) 19 [34, 35, 36, 37, 38, 39, 40, 41, 42, 43, 44, 45, 46, 47, 48, 49, 50, 51, 52] [SP.is (.slice (some ⟨bO, 0, none⟩) n n), SP.is (.int .i64 (i : Nat)), SP.is (.slice (some ⟨bO, 0, none⟩) n n), SP.is (.int .i64 (i : Nat)), SP.is (.pointer (some ⟨bO, i * 2, none⟩)), SP.is (.agg #[.bool b0, .slice p0 m0 c0]), SP.is (.agg #[.int .i64 (n : Nat), .slice p l.length cap]), SP.is (.int .i64 (i : Nat)), SP.is (.int .i64 (j : Nat)), SP.is (.int .i64 eij), SP.of (fun v w1 => Big w1 v eij) (fun _ _ _ h hu => h.up hu), SP.is (.slice (some adx) x.length cq), SP.is (.int .i64 (j : Nat)), SP.is (.pointer (some (adx.add j))), SP.is (.int .i64 xj), SP.of (fun v w1 => Big w1 v xj) (fun _ _ _ h hu => h.up hu), SP.of (fun v w1 => Big w1 v (eij * xj)) (fun _ _ _ h hu => h.up hu), SP.of (fun v w1 => Big w1 v S2) (fun _ _ _ h hu => h.up hu), SP.is (.pointer (some ⟨bO, i * 2, none⟩)), SP.any] (fun wq => Up wr wq ∧ Below w.heap.size w wq) (by kernel_rfl) (by rfl) (by kernel_rfl) (by kernel_rfl) (fun _ _ h hu => ⟨(h.1).trans hu, below_up (h.2) hu⟩) ⟨(by first | exact Up.refl _ | assumption), (by repeat (first | assumption | (with_reducible apply Up.of) | (with_reducible exact Below.refl _ _) | (with_reducible exact Up.refl _) | ((with_reducible apply bl_setRow); (focus (first | exact Nat.le_refl _ | (simp; done) | (simp; omega) | omega))) | (with_reducible apply below_drewN) | (with_reducible apply Below.drew) | ((with_reducible apply bl_alloc); (focus (first | exact Nat.le_refl _ | (simp; done) | (simp; omega) | omega))) | ((with_reducible apply bl_setCell); (focus (first | exact Nat.le_refl _ | (simp; done) | (simp; omega) | omega))) | ((with_reducible apply up_tr); assumption)))⟩ (fun ev w9 hS9 i o hne hi hev => ?_) (fun gR wE hq hSE huE => ?_)
              · have ⟨hS1, hSB⟩ := hS9
                have hcC := hev.const
                have hcF := hev.func
                have hcG := hev.global
                rcases i with _ | _ | _ | _ | _ | _ | _ | _ | _ | _ | _ | _ | _ | _ | _ | _ | _ | _ | _ | _ | i
                · obtain rfl := Option.some.inj (show some _ = some o from hi)
                  have e6 := hev.other 6 (by kernel_rfl)
                  simp [Act.eval] at e6
                  exact leavesR_value (u := .slice (some ⟨bO, 0, none⟩) n n) (by first | (go_simp; done) | (go_simp; exact rfl)) rfl
                · obtain rfl := Option.some.inj (show some _ = some o from hi)
                  have e7 := hev.other 7 (by kernel_rfl)
                  simp [Act.eval] at e7
                  exact leavesR_value (u := .int .i64 (i : Nat)) (by first | (go_simp; done) | (go_simp; exact rfl)) rfl
                · obtain rfl := Option.some.inj (show some _ = some o from hi)
                  have e6 := hev.other 6 (by kernel_rfl)
                  simp [Act.eval] at e6
                  exact leavesR_value (u := .slice (some ⟨bO, 0, none⟩) n n) (by first | (go_simp; done) | (go_simp; exact rfl)) rfl
                · obtain rfl := Option.some.inj (show some _ = some o from hi)
                  have e7 := hev.other 7 (by kernel_rfl)
                  simp [Act.eval] at e7
                  exact leavesR_value (u := .int .i64 (i : Nat)) (by first | (go_simp; done) | (go_simp; exact rfl)) rfl
                · obtain rfl := Option.some.inj (show some _ = some o from hi)
                  have e36 : ev (.tmp 36) = (.slice (some ⟨bO, 0, none⟩) n n) := hev.dep 2 36 (by kernel_rfl)
                  have e37 : ev (.tmp 37) = (.int .i64 (i : Nat)) := hev.dep 3 37 (by kernel_rfl)
                  exact leavesR_value (u := .pointer (some ⟨bO, i * 2, none⟩)) (by first | (go_simp; done) | (go_simp; exact rfl)) rfl
                · obtain rfl := Option.some.inj (show some _ = some o from hi)
                  have e38 : ev (.tmp 38) = (.pointer (some ⟨bO, i * 2, none⟩)) := hev.dep 4 38 (by kernel_rfl)
                  exact leavesR_value (run_ldB2 rfl e38 (HRg.out _ (hBC.up hS1))) rfl
                · obtain rfl := Option.some.inj (show some _ = some o from hi)
                  have e2 := hev.other 2 (by kernel_rfl)
                  simp [Act.eval] at e2
                  exact leavesR_value (run_ldME rfl e2 (hBr.up hS1) rfl) rfl
                · obtain rfl := Option.some.inj (show some _ = some o from hi)
                  have e7 := hev.other 7 (by kernel_rfl)
                  simp [Act.eval] at e7
                  exact leavesR_value (u := .int .i64 (i : Nat)) (by first | (go_simp; done) | (go_simp; exact rfl)) rfl
                · obtain rfl := Option.some.inj (show some _ = some o from hi)
                  have e8 := hev.other 8 (by kernel_rfl)
                  simp [Act.eval] at e8
                  exact leavesR_value (u := .int .i64 (j : Nat)) (by first | (go_simp; done) | (go_simp; exact rfl)) rfl
                · obtain rfl := Option.some.inj (show some _ = some o from hi)
                  have e40 : ev (.tmp 40) = (.agg #[.int .i64 (n : Nat), .slice p l.length cap]) := hev.dep 6 40 (by kernel_rfl)
                  have e41 : ev (.tmp 41) = (.int .i64 (i : Nat)) := hev.dep 7 41 (by kernel_rfl)
                  have e42 : ev (.tmp 42) = (.int .i64 (j : Nat)) := hev.dep 8 42 (by kernel_rfl)
                  refine leavesR_call ?_ ((HATi.out _ (hU.trans (hu.trans hS1))).mono fun _ _ h => ⟨h.2, _, h.1, rfl⟩)
                  go_simp
                · obtain rfl := Option.some.inj (show some _ = some o from hi)
                  have e43 : ev (.tmp 43) = (.int .i64 eij) := hev.dep 9 43 (by kernel_rfl)
                  refine leavesR_call ?_ (HO1.out _)
                  go_simp
                · obtain rfl := Option.some.inj (show some _ = some o from hi)
                  have e1 := hev.other 1 (by kernel_rfl)
                  simp [Act.eval] at e1
                  exact leavesR_value (u := .slice (some adx) x.length cq) (by first | (go_simp; done) | (go_simp; exact rfl)) rfl
                · obtain rfl := Option.some.inj (show some _ = some o from hi)
                  have e8 := hev.other 8 (by kernel_rfl)
                  simp [Act.eval] at e8
                  exact leavesR_value (u := .int .i64 (j : Nat)) (by first | (go_simp; done) | (go_simp; exact rfl)) rfl
                · obtain rfl := Option.some.inj (show some _ = some o from hi)
                  have e45 : ev (.tmp 45) = (.slice (some adx) x.length cq) := hev.dep 11 45 (by kernel_rfl)
                  have e46 : ev (.tmp 46) = (.int .i64 (j : Nat)) := hev.dep 12 46 (by kernel_rfl)
                  exact leavesR_value (u := .pointer (some (adx.add j))) (by first | (go_simp; done) | (go_simp; exact rfl)) rfl
                · obtain rfl := Option.some.inj (show some _ = some o from hi)
                  have e47 : ev (.tmp 47) = (.pointer (some (adx.add j))) := hev.dep 13 47 (by kernel_rfl)
                  have hcx := HAd.out w9 (hU.trans (hu.trans hS1)); exact leavesR_value (u := .int .i64 xj) (by go_simp) rfl
                · obtain rfl := Option.some.inj (show some _ = some o from hi)
                  have e48 : ev (.tmp 48) = (.int .i64 xj) := hev.dep 14 48 (by kernel_rfl)
                  refine leavesR_call ?_ (HO2.out _)
                  go_simp
                · obtain rfl := Option.some.inj (show some _ = some o from hi)
                  have e44 : (fun v w1 => Big w1 v eij) (ev (.tmp 44)) w9 := hev.dep 10 44 (by kernel_rfl)
                  dsimp only at e44
                  obtain ⟨v44, hv44⟩ : ∃ v, ev (.tmp 44) = v := ⟨_, rfl⟩
                  rw [hv44] at e44
                  have e49 : (fun v w1 => Big w1 v xj) (ev (.tmp 49)) w9 := hev.dep 15 49 (by kernel_rfl)
                  dsimp only at e49
                  obtain ⟨v49, hv49⟩ : ∃ v, ev (.tmp 49) = v := ⟨_, rfl⟩
                  rw [hv49] at e49
                  refine leavesR_call ?_ (HM.out _ _ _ e44 e49)
                  go_simp
                · obtain rfl := Option.some.inj (show some _ = some o from hi)
                  have e39 : ev (.tmp 39) = (.agg #[.bool b0, .slice p0 m0 c0]) := hev.dep 5 39 (by kernel_rfl)
                  have e50 : (fun v w1 => Big w1 v (eij * xj)) (ev (.tmp 50)) w9 := hev.dep 16 50 (by kernel_rfl)
                  dsimp only at e50
                  obtain ⟨v50, hv50⟩ : ∃ v, ev (.tmp 50) = v := ⟨_, rfl⟩
                  rw [hv50] at e50
                  refine leavesR_call ?_ (HA.out _ _ _ (h3.up hS1) e50)
                  go_simp
                · obtain rfl := Option.some.inj (show some _ = some o from hi)
                  have e34 : ev (.tmp 34) = (.slice (some ⟨bO, 0, none⟩) n n) := hev.dep 0 34 (by kernel_rfl)
                  have e35 : ev (.tmp 35) = (.int .i64 (i : Nat)) := hev.dep 1 35 (by kernel_rfl)
                  exact leavesR_value (u := .pointer (some ⟨bO, i * 2, none⟩)) (by first | (go_simp; done) | (go_simp; exact rfl)) rfl
                · exact absurd rfl hne
                · exact absurd (show i + 20 < 20 from (Array.getElem?_eq_some_iff.1 hi).1) (by omega)
              have ⟨hS1, hSB⟩ := hSE
              have q0 : gR 34 = (.slice (some ⟨bO, 0, none⟩) n n) := hq 0 34 (by decide) (by kernel_rfl)
              have q1 : gR 35 = (.int .i64 (i : Nat)) := hq 1 35 (by decide) (by kernel_rfl)
              have q2 : gR 36 = (.slice (some ⟨bO, 0, none⟩) n n) := hq 2 36 (by decide) (by kernel_rfl)
              have q3 : gR 37 = (.int .i64 (i : Nat)) := hq 3 37 (by decide) (by kernel_rfl)
              have q4 : gR 38 = (.pointer (some ⟨bO, i * 2, none⟩)) := hq 4 38 (by decide) (by kernel_rfl)
              have q5 : gR 39 = (.agg #[.bool b0, .slice p0 m0 c0]) := hq 5 39 (by decide) (by kernel_rfl)
              have q6 : gR 40 = (.agg #[.int .i64 (n : Nat), .slice p l.length cap]) := hq 6 40 (by decide) (by kernel_rfl)
              have q7 : gR 41 = (.int .i64 (i : Nat)) := hq 7 41 (by decide) (by kernel_rfl)
              have q8 : gR 42 = (.int .i64 (j : Nat)) := hq 8 42 (by decide) (by kernel_rfl)
              have q9 : gR 43 = (.int .i64 eij) := hq 9 43 (by decide) (by kernel_rfl)
              have q10 : (fun v w1 => Big w1 v eij) (gR 44) wE := hq 10 44 (by decide) (by kernel_rfl)
              dsimp only at q10
              obtain ⟨v44, hv44⟩ : ∃ v, gR 44 = v := ⟨_, rfl⟩
              rw [hv44] at q10
              have q11 : gR 45 = (.slice (some adx) x.length cq) := hq 11 45 (by decide) (by kernel_rfl)
              have q12 : gR 46 = (.int .i64 (j : Nat)) := hq 12 46 (by decide) (by kernel_rfl)
              have q13 : gR 47 = (.pointer (some (adx.add j))) := hq 13 47 (by decide) (by kernel_rfl)
              have q14 : gR 48 = (.int .i64 xj) := hq 14 48 (by decide) (by kernel_rfl)
              have q15 : (fun v w1 => Big w1 v xj) (gR 49) wE := hq 15 49 (by decide) (by kernel_rfl)
              dsimp only at q15
              obtain ⟨v49, hv49⟩ : ∃ v, gR 49 = v := ⟨_, rfl⟩
              rw [hv49] at q15
              have q16 : (fun v w1 => Big w1 v (eij * xj)) (gR 50) wE := hq 16 50 (by decide) (by kernel_rfl)
              dsimp only at q16
              obtain ⟨v50, hv50⟩ : ∃ v, gR 50 = v := ⟨_, rfl⟩
              rw [hv50] at q16
              have q17 : (fun v w1 => Big w1 v S2) (gR 51) wE := hq 17 51 (by decide) (by kernel_rfl)
              dsimp only at q17
              obtain ⟨v51, hv51⟩ : ∃ v, gR 51 = v := ⟨_, rfl⟩
              rw [hv51] at q17
              have q18 : gR 52 = (.pointer (some ⟨bO, i * 2, none⟩)) := hq 18 52 (by decide) (by kernel_rfl)
              refine ⟨fun h => absurd h (by decide), fun o ho => ?_⟩
              obtain rfl := Option.some.inj (show some _ = some o from ho)
              simp only [putL, List.map_cons, List.map_nil, q0, q1, q2, q3, q4, q5, q6, q7, q8, q9, hv44, q11, q12, q13, q14, hv49, hv50, hv51, q18, Act.put, List.setIfInBounds_toArray, List.set_cons_zero, List.set_cons_succ]
              clear hq hSE q0 q1 q2 q3 q4 q5 q6 q7 q8 q9 q11 q12 q13 q14 q18
              obtain ⟨bb, ba, bn, bc, rfl⟩ := q17.shape
              have hset := (hO.up hS1).set (hBC.up hS1) (i := i) (by rw [tA_len]; exact hlt) q17
              rw [HSet.out] at hset
              refine wp_stB2 _ _ rfl rfl rfl (hBC.up hS1) hset.2 ?_
              have hU9 := below_setRow (hu.trans hS1) (show wS.heap.size ≤ bO by omega) (splB C (i * 2) [.bool bb, .slice ba bn bc])
              obtain ⟨wK, hwK⟩ : ∃ y, wE.setRow bO (splB C (i * 2) [.bool bb, .slice ba bn bc]) = y := ⟨_, rfl⟩
              have hO9 := hset.1
              rw [hwK] at hO9 hU9 ⊢
              clear hwK hset q17 q16 q15 q10 hS1 hSB huE
              go_wp2_with fail
              go_roundg (n - (j + 1))
              case measure => omega
              case rel => exact ⟨j + 1, hjlt, Nat.le_refl _, rfl, hO9, hU9⟩
            · obtain rfl : j = n := by omega
              rw [tA_row] at hO
              go_wp2_with fail
              go_roundg (j - (i + 1))
              case measure => omega
              case rel => exact ⟨i + 1, hlt, Nat.le_refl _, rfl, hO, hu⟩
        · obtain rfl : i = n := by omega
          rw [tA_all] at hO
          go_wp2_with fail
          go_ret2
          exact ⟨_, rfl, hU.trans hu, hO.bv⟩
    · have e : tmC N l x = 23 := by unfold tmC; rw [hR, decide_eq_false hn0]; rfl
      have e2 : tmR N l x = [] := by unfold tmR; rw [e]; rfl
      rw [e, e2]
      have d3 : ((x.length : Int) != N) = true := by simpa using hn0
      clear e e2 hR hc hl hN hI hn0
      go_enter Tryz.func18, Tryz.ntmps18
      go_wp2_with (first
        | ((with_reducible apply ldM_P); exact rfl; exact rfl; exact hB; exact rfl)
        | (go_at_call 26; (with_reducible refine (HR.out _ hU).mono ?_); rintro r w1 ⟨rfl, hu1⟩; replace hB := hB.up hu1; have hc0 := hB.cell 0 rfl))
      go_ret2
      exact ⟨_, rfl, hU.trans hu1, bv_nil _⟩
end Go.Proofs.YtdcpoamjmoceiaaGreatDoor
/-
  The reference's numbers out of wide ones.
-/
namespace Go.Proofs.YtdcpoamjmoceiaaGreatDoor
open Go Go.RowKit
set_option maxRecDepth 100000

theorem xor_all {x : Nat} (h : x < 2 ^ 64) : (2 ^ 64 - 1) ^^^ x = 2 ^ 64 - (x + 1) := by
  apply Nat.eq_of_testBit_eq
  intro i
  rw [Nat.testBit_xor, Nat.testBit_two_pow_sub_one, Nat.testBit_two_pow_sub_succ h]
  by_cases hi : i < 64
  · simp [hi]
  · have : x.testBit i = false := Nat.testBit_lt_two_pow (Nat.lt_of_lt_of_le h (Nat.pow_le_pow_right (by decide) (by omega)))
    simp [hi, this]
theorem bits_not {x : Nat} (h : x < 18446744073709551616) : bits BinOp.xor IntKind.u64 IntKind.u64.max (x : Int) = ((18446744073709551615 - x : Nat) : Int) := by
  have h1 := bits_xor_u64_nat 18446744073709551615 x (by decide) h
  have h2 := xor_all (x := x) h
  rw [show (2 ^ 64 - 1 : Nat) = 18446744073709551615 from rfl, show (2 ^ 64 : Nat) = 18446744073709551616 from rfl] at h2
  rw [h2] at h1
  rw [show (IntKind.u64.max : Int) = ((18446744073709551615 : Nat) : Int) from rfl, h1]
  omega
theorem comp_step {S : Nat → Nat} {X A B c r c' i : Nat} (h : sumL S i + c * bp i + A = B) (hB : B = bp i) (hr : r + c' * 18446744073709551616 + X = 18446744073709551615 + c) : sumL (upd S i r) (i + 1) + c' * bp (i + 1) + (A + X * bp i) = bp (i + 1) := by
  subst hB
  rw [sumL_upd_succ, bp_succ]
  have h2 : (r + c' * 18446744073709551616 + X) * bp i = (18446744073709551615 + c) * bp i := by rw [hr]
  have h3 : r * bp i + c' * (bp i * 18446744073709551616) + X * bp i = 18446744073709551615 * bp i + c * bp i := by grind
  omega
end Go.Proofs.YtdcpoamjmoceiaaGreatDoor
