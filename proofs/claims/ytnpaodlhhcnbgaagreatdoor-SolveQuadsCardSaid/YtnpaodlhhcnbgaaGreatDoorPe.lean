import Derived.Test.YtnpaodlhhcnbgaaGreatDoorPd
import Derived.Lib.AppendZeros
import Derived.Lib.AppendZerosOnto
import Derived.Deep.DeepCutAuto
import Derived.Deep.CutRange
import Derived.Deep.CutBlock
namespace Go.Proofs.YtnpaodlhhcnbgaaGreatDoor
open Go Go.RowKit
set_option maxRecDepth 100000
def Rv (w : World) (v : Value) (L : List (List Int)) : Prop :=
  (L = [] ∧ ∃ p c, v = .slice p 0 c) ∨ ∃ g o cap C, v = .slice (some ⟨g, o, none⟩) L.length cap ∧ L.length ≤ cap ∧ Blk w g 38 C ∧ ∀ i, i < L.length → ∃ s, C[o + i]? = some s ∧ Wv w s (L.getD i [])
theorem Rv.slice {w : World} {v : Value} {L : List (List Int)} (h : Rv w v L) : ∃ p c, v = .slice p L.length c := by
  rcases h with ⟨rfl, p, c, rfl⟩ | ⟨g, o, cap, C, rfl, _⟩
  · exact ⟨p, c, rfl⟩
  · exact ⟨_, cap, rfl⟩
theorem Rv.open {w : World} {v : Value} {L : List (List Int)} (h : Rv w v L) (h0 : 0 < L.length) :
    ∃ g o cap C, v = .slice (some ⟨g, o, none⟩) L.length cap ∧ L.length ≤ cap ∧ Blk w g 38 C ∧ ∀ i, i < L.length → ∃ s, C[o + i]? = some s ∧ Wv w s (L.getD i []) := by
  rcases h with ⟨rfl, _⟩ | h
  · exact absurd h0 (by decide)
  · exact h
def Wb (w : World) (base : Nat) (v : Value) (l : List Int) : Prop := Wv w v l ∧ ∀ a n c, v = .slice (some a) n c → 0 < n → base ≤ a.block
theorem Wb.up {w w' : World} (hu : Up w w') {base : Nat} {v : Value} {l : List Int} (h : Wb w base v l) : Wb w' base v l := ⟨h.1.up hu, h.2⟩
theorem OwnW.wb {w : World} {base b : Nat} {v : Value} {l : List Int} (h : OwnW w b v l) (hb : base ≤ b) : Wb w base v l := by
  refine ⟨h.wv, fun a n c e h0 => ?_⟩
  obtain ⟨_, ⟨rfl, h1⟩ | ⟨g, cap, cur, rfl, h2, _⟩⟩ := h
  · simp at e
  · injection e with e1
    injection e1 with e1
    subst e1
    exact Nat.le_trans hb h2
theorem OwnW.below {w : World} {base g : Nat} {v : Value} {l : List Int} (h : OwnW w base v l) (hg : g < base) (D : Array Value) : OwnW (w.setRow g D) base v l := by
  obtain ⟨h0, h1 | ⟨g', cap, cur, hv, hb, hB, hr⟩⟩ := h
  · exact ⟨h0, .inl h1⟩
  · exact ⟨h0, .inr ⟨g', cap, cur, hv, hb, Blk.row_other hB D (by omega), hr⟩⟩
theorem Wb.below {w : World} {base g : Nat} {v : Value} {l : List Int} (h : Wb w base v l) (hg : g < base) (D : Array Value) : Wb (w.setRow g D) base v l := by
  obtain ⟨h1, h2⟩ := h
  refine ⟨?_, h2⟩
  rcases h1 with h1 | ⟨g', cap, C, hv, hc, hB, ht⟩
  · exact .inl h1
  · rcases Nat.eq_zero_or_pos l.length with h0 | h0
    · exact .inl ⟨List.length_eq_zero_iff.1 h0, _, _, by rw [hv, h0]⟩
    · have := h2 _ _ _ hv h0
      exact .inr ⟨g', cap, C, hv, hc, Blk.row_other hB D (by show g' ≠ g; have : base ≤ g' := this; omega), ht⟩
def OwnR (w : World) (base : Nat) (v : Value) (L : List (List Int)) : Prop :=
  ∃ xs : List Value, w.ownsRow base 38 1 v L.length xs ∧ ∀ i, i < L.length → ∃ s, xs[i]? = some s ∧ Wb w base s (L.getD i [])
theorem OwnR.below {w : World} {base g : Nat} {v : Value} {L : List (List Int)} (h : OwnR w base v L) (hg : g < base) (D : Array Value) : OwnR (w.setRow g D) base v L := by
  obtain ⟨xs, ⟨h0, h1⟩, h2⟩ := h
  refine ⟨xs, ⟨h0, ?_⟩, fun i hi => by obtain ⟨s, h5, h6⟩ := h2 i hi; exact ⟨s, h5, h6.below hg D⟩⟩
  rcases h1 with h1 | ⟨g', cap, cur, hv, hb, hB, hr⟩
  · exact .inl h1
  · exact .inr ⟨g', cap, cur, hv, hb, Blk.row_other hB D (by omega), hr⟩
theorem OwnR.up {w w' : World} {base : Nat} {v : Value} {L : List (List Int)} (hu : Up w w') (h : OwnR w base v L) : OwnR w' base v L := by
  obtain ⟨xs, h1, h2⟩ := h
  exact ⟨xs, World.ownsRow.up h1 hu, fun i hi => by obtain ⟨s, h5, h6⟩ := h2 i hi; exact ⟨s, h5, h6.up hu⟩⟩
theorem OwnR.nil (w : World) (base : Nat) : OwnR w base (.slice none 0 0) [] := ⟨[], World.ownsRow_nil _ _ _ _, fun _ hi => absurd hi (Nat.not_lt_zero _)⟩
def Rz (w : World) (v : Value) (L : List (List Int)) : Prop :=
  (L = [] ∧ ∃ p c, v = .slice p 0 c) ∨ ∃ g cap C, v = .slice (some ⟨g, 0, none⟩) L.length cap ∧ L.length ≤ cap ∧ Blk w g 38 C ∧ ∀ i, i < L.length → ∃ s, C[i]? = some s ∧ Wv w s (L.getD i [])
theorem Rz.slice {w : World} {v : Value} {L : List (List Int)} (h : Rz w v L) : ∃ p c, v = .slice p L.length c := by
  rcases h with ⟨rfl, p, c, rfl⟩ | ⟨g, cap, C, rfl, _⟩
  · exact ⟨p, c, rfl⟩
  · exact ⟨_, cap, rfl⟩
theorem OwnR.rz {w : World} {base : Nat} {v : Value} {L : List (List Int)} (h : OwnR w base v L) : Rz w v L := by
  obtain ⟨xs, ⟨_, ⟨rfl, h0⟩ | ⟨g, cap, cur, rfl, _, hB, hc, _, _, ht⟩⟩, h2⟩ := h
  · exact .inl ⟨List.length_eq_zero_iff.1 h0, _, _, rfl⟩
  · refine .inr ⟨g, cap, cur, rfl, hc, hB, fun i hi => ?_⟩
    obtain ⟨s, h3, h4⟩ := h2 i hi
    rw [← ht, List.getElem?_take_of_lt (by omega), Array.getElem?_toList] at h3
    exact ⟨s, h3, h4.1⟩
theorem OwnR.slice {w : World} {base : Nat} {v : Value} {L : List (List Int)} (h : OwnR w base v L) : ∃ p c, v = .slice p L.length c := h.rz.slice
theorem Rz.tail {w : World} {g n cap : Nat} {C : Array Value} {L : List (List Int)} (hl : L.length = n + 1) (hc : n + 1 ≤ cap) (hB : Blk w g 38 C) (hE : ∀ i, i < L.length → ∃ s, C[i]? = some s ∧ Wv w s (L.getD i [])) : Rv w (.slice (some ⟨g, 1, none⟩) n (cap - 1)) (L.drop 1) := by
  have hn : (L.drop 1).length = n := by rw [List.length_drop]; omega
  refine .inr ⟨g, 1, cap - 1, C, by rw [hn], by rw [hn]; omega, hB, fun i hi => ?_⟩
  rw [hn] at hi
  obtain ⟨s, h1, h2⟩ := hE (i + 1) (by omega)
  refine ⟨s, by rw [Nat.add_comm]; exact h1, ?_⟩
  have e : (L.drop 1).getD i [] = L.getD (i + 1) [] := by rw [List.getD_eq_getElem?_getD, List.getD_eq_getElem?_getD, List.getElem?_drop, Nat.add_comm]
  rw [e]
  exact h2
theorem Wv.grown {w w' : World} {row : Option Nat} {v : Value} {l : List Int} (h : Wv w v l) (hg : w.grownBy w' row) (hr : ∀ k, row = some k → ∃ C, Blk w k 38 C) : Wv w' v l := by
  rcases h with h | ⟨g, cap, C, h1, h2, h3, h4⟩
  · exact .inl h
  · refine .inr ⟨g, cap, C, h1, h2, ?_, h4⟩
    unfold Blk
    rw [hg.block g h3.lt ?_]
    · exact h3
    · intro e
      obtain ⟨D, hD⟩ := hr g e.symm
      unfold Blk at hD h3
      rw [hD] at h3
      simp at h3
theorem appR {ops : Array Oper} {rest : List Oper} {Q : Exit → Act → World → Prop} {a : Act} {w : World} {d : Option Tmp} {s u : Operand} {ty : TypeId} {pos : String} {af : Array Edge} {base g c : Nat} {v : Value} {L : List (List Int)} {x : Value} {r : List Int}
    (hs : a.eval s = v) (hu : a.eval u = .slice (some ⟨g, 0, none⟩) 1 c) (hown : OwnR w base v L) (hV : w.cell? ⟨g, 0, none⟩ = some x) (hx : Wb w base x r) (hbase : base ≤ w.heap.size) (hl : L.length < 1000000)
    (h : ∀ v' w', OwnR w' base v' (L ++ [r]) → w.grownBy w' v.ownBlock → Below base w w' → wpList Tryz.prog ops Q rest (a.put d v') w') :
    wpList Tryz.prog ops Q ({ dst := d, op := .call { callee := .builtin .append, args := #[s, u], argTypes := #[92, 92] }, type := ty, pos := pos, after := af, guard := none } :: rest) a w := by
  obtain ⟨i0, hi0, he⟩ := Option.map_eq_some_iff.1 infoRs
  simp only [Prod.mk.injEq] at he
  obtain ⟨xs, hxs, hE⟩ := hown
  have hlt := World.ownsRow.lt hxs
  have hrow : ∀ k, v.ownBlock = some k → ∃ C, Blk w k 38 C := by
    intro k hk
    obtain ⟨_, ⟨rfl, _⟩ | ⟨g', cap, cur, rfl, _, hB, _⟩⟩ := hxs
    · simp [Value.ownBlock] at hk
    · simp [Value.ownBlock] at hk; subst hk; exact ⟨cur, hB⟩
  have hxl : xs.length = L.length := by have := hxs.1; omega
  obtain ⟨px, cx, rfl⟩ := hx.1.slice
  refine wpList_append_own w rfl s u 92 rfl base 38 i0 _ 1 24 undRs hi0 he.1 he.2.1 he.2.2 rfl (by decide) v L.length xs hs hxs ⟨g, 0, none⟩ 1 c [.slice px r.length cx] hu rfl (fun j y hy => by
    rcases j with _ | j
    · simp at hy; subst hy; rw [Addr.add_mid]; exact hV
    · simp at hy) (by simp [Value.oneCell']) (by unfold maxLen; omega) (by omega) hbase ?_
  intro v' w' h1 h2 _
  refine h v' w' ⟨xs ++ [.slice px r.length cx], by rw [List.length_append]; exact h1, fun i hi => ?_⟩ h2 ⟨h2.os, h2.tape, h2.output, h2.size, fun k hk => h2.block k (by omega) fun e => ?_⟩
  · rw [List.length_append, List.length_singleton] at hi
    by_cases e : i < L.length
    · obtain ⟨s', h3, h4⟩ := hE i e
      refine ⟨s', by rw [List.getElem?_append_left (by omega)]; exact h3, ?_⟩
      rw [show (L ++ [r]).getD i [] = L.getD i [] from by rw [List.getD_eq_getElem?_getD, List.getD_eq_getElem?_getD, List.getElem?_append_left e]]
      exact ⟨h4.1.grown h2 hrow, h4.2⟩
    · obtain rfl : i = L.length := by omega
      refine ⟨_, by rw [List.getElem?_append_right (by omega), hxl, Nat.sub_self]; rfl, ?_⟩
      rw [show (L ++ [r]).getD L.length [] = r from by rw [List.getD_eq_getElem?_getD, List.getElem?_append_right (Nat.le_refl _), Nat.sub_self]; rfl]
      exact ⟨hx.1.grown h2 hrow, hx.2⟩
  · have := hlt k e.symm
    omega
theorem take_map_succ {α β : Type} (f : α → β) (L : List α) (d : α) {k : Nat} (hk : k < L.length) : (L.map f).take (k + 1) = (L.map f).take k ++ [f (L.getD k d)] := by
  rw [List.take_add_one, List.getElem?_eq_getElem (by rw [List.length_map]; exact hk), List.getElem_map, List.getD_eq_getElem?_getD, List.getElem?_eq_getElem hk]
  rfl
set_option maxHeartbeats 8000000 in
theorem fewer_any {vf vo : Value} {F : List Int} {L : List (List Int)} {q : Int} {n : Nat} {w : World} (hF : Wv w vf F) (hO : Rv w vo L) (lF : F.length = n + 1) (lL : ∀ i, i < L.length → (L.getD i []).length = n + 1) (hn : n ≤ 8) (h8 : L.length ≤ 8)
    (bF : Few F) (bL : ∀ i, Few (L.getD i [])) (bq : q.natAbs < bp 5) (q0 : q ≠ 0) :
    Calls Tryz.prog 46 #[vf, vo, wideV (enc q)] w fun r w' => ∃ z, r = .returned z ∧ Up w w' ∧ ∃ b, w.heap.size ≤ b ∧ OwnR w' b z (L.map fun R => tk F R q n) := by
  have HTK := hid (fun (R : List Int) (vr : Value) (w' : World) (hu : Up w w') (hR : Wv w' vr R) (lR : R.length = n + 1) (bR : Few R) => takenoff_any (hF.up hu) hR lF lR hn bF bR bq q0)
  have HL := hid lL
  have HB := hid bL
  obtain ⟨pF, cF, rfl⟩ := hF.slice
  rw [lF] at HTK ⊢
  obtain ⟨wS, hwS⟩ : ∃ x, w.alloc (.cells (cells 16 (limb (enc q))) 33) = x := ⟨_, rfl⟩
  have hBox : Row wS w.heap.size 33 16 (limb (enc q)) := by rw [← hwS]; exact row_newc _ _ _ rfl
  have hUS : Up w wS := by rw [← hwS]; exact Up.alloc _ _
  have hML : (L.map fun R => tk F R q n).length = L.length := List.length_map ..
  have HML := hid hML
  have HT := hid (fun k (hk : k < L.length) => take_map_succ (fun R => tk F R q n) L [] hk)
  obtain ⟨T, hT⟩ : ∃ T, (L.map fun R => tk F R q n) = T := ⟨_, rfl⟩
  rw [hT] at HML HT ⊢
  clear hT hML lL bL
  rcases Nat.eq_zero_or_pos L.length with hz | hz
  · obtain rfl : L = [] := List.length_eq_zero_iff.1 hz
    obtain rfl : T = [] := List.length_eq_zero_iff.1 HML.out
    obtain ⟨pO, cO, rfl⟩ := hO.slice
    clear hF hO
    unfold wideV at *
    go_enter Tryz.func46, Tryz.ntmps46
    go_wp2_with fail
    go_loopg [7, 12] 1 (fun g tr ti wr => tr = .slice none 0 0 ∧ ti = .int .i64 0 ∧ Up wS wr)
    case atStart => exact ⟨rfl, rfl, Up.refl _⟩
    case round =>
      obtain ⟨rfl, rfl, hu⟩ := hrel
      go_wp2_with fail
      go_ret
      exact ⟨_, rfl, hUS.trans hu, _, Nat.le_refl _, OwnR.nil _ _⟩
  · obtain ⟨gO, o, cO, CO, rfl, -, hBO, hE⟩ := hO.open hz
    have HE := hid hE
    have hBOS := hBO.up hUS
    clear hF hO hBO hE
    unfold wideV at *
    go_enter Tryz.func46, Tryz.ntmps46
    go_wp2_with fail
    go_loopg [7, 12] L.length (fun g tr ti wr => ∃ k : Nat, k ≤ L.length ∧ L.length - k ≤ g ∧ ti = .int .i64 (k : Nat) ∧ OwnR wr wS.heap.size tr (T.take k) ∧ Up wS wr)
    case atStart => exact ⟨0, Nat.zero_le _, by omega, rfl, by rw [List.take_zero]; exact OwnR.nil _ _, Up.refl _⟩
    case round =>
      obtain ⟨k, hk, hkg, rfl, hO, hu⟩ := hrel
      by_cases hlt : k < L.length
      · obtain ⟨s, h1, h2⟩ := HE.out k hlt
        obtain ⟨ps, cs, rfl⟩ := h2.slice
        have hcx := (hBOS.up hu).cell _ h1
        have hBx := hBox.up hu
        have HTKk := hid (fun w' (hu' : Up w w') => HTK.out (L.getD k []) _ w' hu' (h2.up hu') (HL.out k hlt) (HB.out k))
        have hT9 := HT.out k hlt
        have HT9 := hid hT9
        have HTk : Hid ((T.take k).length < 1000000) := hid (by rw [List.length_take, HML.out]; omega)
        clear h1 h2 hT9
        generalize L.getD k [] = R at *
        generalize tk F R q n = TK at *
        go_wp2_with (first
          | ((with_reducible apply ld_rowP undW infoW); exact rfl; exact rfl; exact gRow)
          | (go_at_call 80; (with_reducible refine (HTKk.out _ (hUS.trans hu)).mono ?_); rintro r w3 ⟨z3, rfl, hu3, b3, hb3, hO3⟩; obtain ⟨p3, c3, rfl⟩ := hO3.slice; have hsz3 := hu3.size; have hsz := hu.size)
          | ((with_reducible apply appR); exact rfl; exact rfl; exact OwnR.up (hu3.trans (Up.alloc _ _)) hO; exact (Blk.new _ _ rfl).cell 0 rfl; exact (hO3.up (Up.alloc _ _)).wb (by omega); (focus (simp; omega)); exact HTk.out; rintro v6 w6 hO6 - hb6))
        go_roundg (L.length - (k + 1))
        case measure => omega
        case rel => exact ⟨k + 1, hlt, Nat.le_refl _, rfl, by rw [HT9.out]; exact hO6, Below.trans ((hu.trans hu3).trans (Up.alloc _ _)) hb6⟩
      · obtain rfl : k = L.length := by omega
        rw [← HML.out, List.take_length] at hO
        go_wp2_with fail
        go_ret
        exact ⟨_, rfl, hUS.trans hu, _, hUS.size, hO⟩
def rowE (n : Nat) (l : List Int) (i : Nat) : List Int := mk n fun j => ent n l i j
def sqE (n : Nat) (l : List Int) : List (List Int) := (List.range n).map fun i => rowE n l i
theorem mk_take_succ {n : Nat} (f : Nat → Int) {j : Nat} (hj : j < n) : (mk n f).take (j + 1) = (mk n f).take j ++ [f j] := by
  unfold mk
  rw [take_map_succ f (List.range n) 0 (by simpa using hj), List.getD_eq_getElem?_getD, List.getElem?_range hj]
  rfl
theorem sqE_take_succ (n : Nat) (l : List Int) {i : Nat} (hi : i < n) : (sqE n l).take (i + 1) = (sqE n l).take i ++ [rowE n l i] := by
  unfold sqE
  rw [take_map_succ _ (List.range n) 0 (by simpa using hi), List.getD_eq_getElem?_getD, List.getElem?_range hi]
  rfl
theorem at_right {v : Value} {n : Nat} {l : List Int} {i j : Nat} {w : World} (hm : Sm w v n l) (hR : rt n l = true) (hi : i < n) (hj : j < n) :
    Calls Tryz.prog 78 #[v, .int .i64 (i : Nat), .int .i64 (j : Nat)] w fun r w' => r = .returned (.tuple #[.int .i64 (ent n l i j), .nilIface]) ∧ Up w w' := by
  have hr : rng (n : Int) i j = true := decide_eq_true (by omega)
  have h0 : atC (n : Int) l i j = 0 := by unfold atC; rw [hR, if_pos rfl, hr, if_pos rfl]
  have h1 : atV (n : Int) l i j = ent n l i j := by unfold atV; rw [if_pos h0]
  refine (at_any (i : Int) (j : Int) hm).mono ?_
  rintro r w' ⟨u, rfl, hu, he⟩
  rw [h0] at he
  rw [h1]
  rcases he with ⟨-, h⟩ | ⟨h, -⟩
  · subst h; exact ⟨rfl, hu⟩
  · exact absurd rfl h
theorem ent_i64 {n : Nat} {l : List Int} (hR : rt n l = true) {i j : Nat} (hi : i < n) (hj : j < n) : I64 (ent n l i j) := by
  obtain ⟨k, _, hk, he⟩ := idx_nat hR (show rng (n : Int) i j = true from decide_eq_true (by omega))
  rw [he]
  exact fit_i64 ((rt_spec hR).2.2.2 k hk)
set_option maxHeartbeats 8000000 in
theorem square_any {v : Value} {n : Nat} {l : List Int} {w : World} (hm : Sm w v n l) (hR : rt n l = true) :
    Calls Tryz.prog 44 #[v] w fun r w' => ∃ z, r = .returned z ∧ Up w w' ∧ ∃ b, w.heap.size ≤ b ∧ OwnR w' b z (sqE n l) := by
  have n8 : n ≤ 8 := by have := (rt_spec hR).2.1; omega
  have HAT := hid (fun (i j : Nat) (hi : i < n) (hj : j < n) w' (hu : Up w w') => at_right (hm.up hu) hR hi hj)
  have HO := hid (fun (i j : Nat) (hi : i < n) (hj : j < n) w => of_any (ent n l i j) (ent_i64 hR hi hj).1 (ent_i64 hR hi hj).2 w)
  obtain ⟨s, rfl, ⟨p, cap, rfl, hcap, hc⟩, hN, hl, hlen⟩ := hm
  obtain ⟨wS, hwS⟩ : ∃ x, w.alloc (.cells #[.int .i64 (n : Int), .slice p l.length cap] 24) = x := ⟨_, rfl⟩
  have hB : Blk wS w.heap.size 24 #[.int .i64 (n : Int), .slice p l.length cap] := by rw [← hwS]; exact Blk.new _ _ rfl
  have hU : Up w wS := by rw [← hwS]; exact Up.alloc _ _
  have hc0 := hB.cell 0 rfl
  have hsl : (sqE n l).length = n := by unfold sqE; simp
  have HSL := hid hsl
  have HTR := hid (fun i (hi : i < n) => sqE_take_succ n l hi)
  have HTE := hid (fun i j (hj : j < n) => mk_take_succ (n := n) (fun j => ent n l i j) hj)
  clear hc hl hlen hR hsl hN
  unfold wideV at *
  go_enter Tryz.func44, Tryz.ntmps44
  go_wp2_with fail
  clear hwS hc0
  go_loopg [3, 11] n (fun g tr ti wr => ∃ i : Nat, i ≤ n ∧ n - i ≤ g ∧ ti = .int .i64 (i : Nat) ∧ OwnR wr wS.heap.size tr ((sqE n l).take i) ∧ Up wS wr)
  case atStart => exact ⟨0, Nat.zero_le _, by omega, rfl, by rw [List.take_zero]; exact OwnR.nil _ _, Up.refl _⟩
  case round =>
    obtain ⟨i, hi, hig, rfl, hO, hu⟩ := hrel
    have hc0 := (hB.up hu).cell 0 rfl
    by_cases hlt : i < n
    · have e1 : IntKind.i64.wrap ((i : Int) + 1) = (i : Int) + 1 := IntWalk.i64_in _ (by omega)
      go_wp2_with fail
      obtain ⟨wO, hwO⟩ : ∃ y, wr = y := ⟨_, rfl⟩
      rw [hwO] at hO hu hc0 ⊢
      clear hwO
      go_loopg [5, 16] n (fun g te tj wr => ∃ j : Nat, j ≤ n ∧ n - j ≤ g ∧ tj = .int .i64 (j : Nat) ∧ OwnW wr wO.heap.size te ((rowE n l i).take j) ∧ Up wO wr)
      case atStart => exact ⟨0, Nat.zero_le _, by omega, rfl, by rw [List.take_zero]; exact OwnW.nil _ _, Up.refl _⟩
      case round =>
        clear hc0
        obtain ⟨j, hj, hjg, rfl, hE, huj⟩ := hrel
        have hBj := hB.up (hu.trans huj)
        have hc0 := hBj.cell 0 rfl
        by_cases hjlt : j < n
        · have e2 : IntKind.i64.wrap ((j : Int) + 1) = (j : Int) + 1 := IntWalk.i64_in _ (by omega)
          have HA := hid (fun w' (hu' : Up wr w') => HAT.out i j hlt hjlt w' (hU.trans ((hu.trans huj).trans hu')))
          have HOf := hid (HO.out i j hlt hjlt)
          have HT9 := hid (HTE.out i j hjlt)
          have HTk : Hid (((rowE n l i).take j).length < 1000000) := hid (by rw [List.length_take]; omega)
          have hszj := huj.size
          generalize ent n l i j = z at *
          go_wp2_with (first
            | ((with_reducible apply ldM_P); exact rfl; exact rfl; exact hBj; exact rfl)
            | (go_at_call 78; (with_reducible refine (HA.out _ (Up.refl _)).mono ?_); rintro r w2 ⟨rfl, hu2⟩; have hs2 := hu2.size)
            | (go_at_call 43; (with_reducible refine (HOf.out _).mono ?_); rintro r w3 ⟨rfl, hu3⟩; have hs3 := hu3.size)
            | ((with_reducible apply bsW_P); exact rfl)
            | ((with_reducible apply appW (l := (rowE n l i).take j) (m := [z])); exact rfl; exact rfl; exact OwnW.up ((hu2.trans hu3).trans (Up.alloc _ _)) hE; exact one_range rfl; (focus (simp; omega)); exact HTk.out; (focus (simp; done)); rintro v6 w6 hO6 - hb6))
          go_roundg (n - (j + 1))
          case measure => omega
          case rel => exact ⟨j + 1, hjlt, Nat.le_refl _, rfl, by rw [show rowE n l i = mk n fun j => ent n l i j from rfl, HT9.out]; exact hO6, Below.trans (huj.trans ((hu2.trans hu3).trans (Up.alloc _ _))) hb6⟩
        · obtain rfl : j = n := by omega
          rw [List.take_of_length_le (by show (mk _ _).length ≤ _; rw [mk_len]; exact Nat.le_refl _)] at hE
          obtain ⟨pe, ce, rfl⟩ := hE.slice
          have HT9 := hid (HTR.out i hlt)
          have HTk : Hid (((sqE j l).take i).length < 1000000) := hid (by rw [List.length_take]; omega)
          have hszj := huj.size
          have hszu := hu.size
          go_wp2_with (first
            | ((with_reducible apply appR (r := rowE j l i)); exact rfl; exact rfl; exact OwnR.up (huj.trans (Up.alloc _ _)) hO; exact (Blk.new _ _ rfl).cell 0 rfl; exact (hE.up (Up.alloc _ _)).wb (by omega); (focus (simp; omega)); exact HTk.out; rintro v6 w6 hO6 - hb6))
          go_roundg (j - (i + 1))
          case measure => omega
          case rel => exact ⟨i + 1, hlt, Nat.le_refl _, rfl, by rw [HT9.out]; exact hO6, Below.trans ((hu.trans huj).trans (Up.alloc _ _)) hb6⟩
    · obtain rfl : i = n := by omega
      rw [List.take_of_length_le (by rw [HSL.out]; exact Nat.le_refl _)] at hO
      go_wp2_with fail
      go_ret
      exact ⟨_, rfl, hU.trans hu, _, hU.size, hO⟩
end Go.Proofs.YtnpaodlhhcnbgaaGreatDoor
namespace Go.Proofs.YtnpaodlhhcnbgaaGreatDoor
def sk (i r : Nat) : Nat := if r < i then r else r + 1
def sg (i : Nat) : Int := if i % 2 = 0 then 1 else -1
def sumN : Nat → (Nat → Int) → Int
  | 0, _ => 0
  | n + 1, f => sumN n f + f n
def det : Nat → (Nat → Nat → Int) → Int
  | 0, _ => 1
  | n + 1, A => sumN (n + 1) fun i => sg i * A i 0 * det n fun r c => A (sk i r) (c + 1)
theorem sumN_congr {n : Nat} {f g : Nat → Int} (h : ∀ i, i < n → f i = g i) : sumN n f = sumN n g := by
  induction n with
  | zero => rfl
  | succ n ih => unfold sumN; rw [ih fun i hi => h i (by omega), h n (by omega)]
theorem sumN_lin {n : Nat} {f g k : Nat → Int} {x y : Int} (h : ∀ i, i < n → f i = x * g i + y * k i) : sumN n f = x * sumN n g + y * sumN n k := by
  induction n with
  | zero => simp [sumN]
  | succ n ih => unfold sumN; rw [ih fun i hi => h i (by omega), h n (by omega)]; grind
theorem sumN_zero {n : Nat} {f : Nat → Int} (h : ∀ i, i < n → f i = 0) : sumN n f = 0 := by
  induction n with
  | zero => rfl
  | succ n ih => unfold sumN; rw [ih fun i hi => h i (by omega), h n (by omega)]; rfl
theorem sumN_one {n p : Nat} {f : Nat → Int} (hp : p < n) (h : ∀ i, i < n → i ≠ p → f i = 0) : sumN n f = f p := by
  induction n with
  | zero => omega
  | succ n ih =>
    unfold sumN
    by_cases e : p = n
    · subst e; rw [sumN_zero fun i hi => h i (by omega) (by omega)]; omega
    · rw [ih (by omega) fun i hi => h i (by omega), h n (by omega) (by omega)]; omega
theorem sumN_two {n p : Nat} {f : Nat → Int} (hp : p + 1 < n) (h : ∀ i, i < n → i ≠ p → i ≠ p + 1 → f i = 0) (h2 : f p + f (p + 1) = 0) : sumN n f = 0 := by
  induction n with
  | zero => omega
  | succ n ih =>
    unfold sumN
    by_cases e : p + 1 = n
    · rw [← e, sumN_one (f := f) (p := p) (n := p + 1) (by omega) fun i hi h1 => h i (by omega) h1 (by omega)]; exact h2
    · rw [ih (by omega) fun i hi => h i (by omega), h n (by omega) (by omega) (by omega)]; rfl
theorem sk_lt {n i r : Nat} (hr : r < n) : sk i r < n + 1 := by unfold sk; split <;> omega
theorem sk_ne (i r : Nat) : sk i r ≠ i := by unfold sk; split <;> omega
theorem det_congr {n : Nat} {A B : Nat → Nat → Int} (h : ∀ i j, i < n → j < n → A i j = B i j) : det n A = det n B := by
  induction n generalizing A B with
  | zero => rfl
  | succ n ih =>
    unfold det
    exact sumN_congr fun i hi => by rw [h i 0 hi (by omega), ih fun r c hr hc => h _ _ (sk_lt hr) (by omega)]
def updR (A : Nat → Nat → Int) (p : Nat) (u : Nat → Int) : Nat → Nat → Int := fun r c => if r = p then u c else A r c
theorem updR_minor {A : Nat → Nat → Int} {p i : Nat} {u : Nat → Int} (h : i ≠ p) :
    (fun r c => updR A p u (sk i r) (c + 1)) = updR (fun r c => A (sk i r) (c + 1)) (if p < i then p else p - 1) fun c => u (c + 1) := by
  funext r c
  unfold updR
  have : sk i r = p ↔ r = (if p < i then p else p - 1) := by unfold sk; split <;> split <;> omega
  by_cases e : sk i r = p
  · rw [if_pos e, if_pos (this.1 e)]
  · rw [if_neg e, if_neg (fun x => e (this.2 x))]
theorem updR_own {A : Nat → Nat → Int} {p : Nat} {u : Nat → Int} :
    (fun r c => updR A p u (sk p r) (c + 1)) = fun r c => A (sk p r) (c + 1) := by
  funext r c
  unfold updR
  rw [if_neg (sk_ne p r)]
theorem det_lin {n p : Nat} (hp : p < n) (A : Nat → Nat → Int) (x y : Int) (u v : Nat → Int) :
    det n (updR A p fun c => x * u c + y * v c) = x * det n (updR A p u) + y * det n (updR A p v) := by
  induction n generalizing A p u v with
  | zero => omega
  | succ n ih =>
    unfold det
    refine sumN_lin fun i hi => ?_
    by_cases e : i = p
    · subst e
      rw [updR_own, updR_own, updR_own]
      unfold updR
      simp only [if_true]
      grind
    · rw [updR_minor e, updR_minor e, updR_minor e, ih (p := if p < i then p else p - 1) (by split <;> omega)]
      unfold updR
      rw [if_neg e, if_neg e, if_neg e]
      grind
theorem det_next {n p : Nat} (hp : p + 1 < n) {A : Nat → Nat → Int} (h : ∀ c, A p c = A (p + 1) c) : det n A = 0 := by
  induction n generalizing A p with
  | zero => omega
  | succ n ih =>
    unfold det
    refine sumN_two hp (fun i hi h1 h2 => ?_) ?_
    · by_cases e : i < p
      · rw [ih (p := p - 1) (by omega) (fun c => by
          rw [show sk i (p - 1) = p from by unfold sk; split <;> omega, show sk i (p - 1 + 1) = p + 1 from by unfold sk; split <;> omega]; exact h _)]
        grind
      · rw [ih (p := p) (by omega) (fun c => by
          rw [show sk i p = p from by unfold sk; split <;> omega, show sk i (p + 1) = p + 1 from by unfold sk; split <;> omega]; exact h _)]
        grind
    · have e : (fun r c => A (sk p r) (c + 1)) = fun r c => A (sk (p + 1) r) (c + 1) := by
        funext r c
        by_cases e : r = p
        · rw [show sk p r = p + 1 from by unfold sk; split <;> omega, show sk (p + 1) r = p from by unfold sk; split <;> omega, h]
        · rw [show sk p r = sk (p + 1) r from by unfold sk; split <;> split <;> omega]
      rw [e, h 0]
      have e2 : sg (p + 1) = - sg p := by unfold sg; split <;> split <;> omega
      rw [e2]
      grind
theorem updR_comm {A : Nat → Nat → Int} {p q : Nat} (h : p ≠ q) (u v : Nat → Int) : updR (updR A p u) q v = updR (updR A q v) p u := by
  funext r c
  unfold updR
  split <;> split <;> first | rfl | omega
theorem updR_self (A : Nat → Nat → Int) (p : Nat) : updR A p (A p) = A := by
  funext r c
  unfold updR
  split <;> simp_all
theorem updR_at (A : Nat → Nat → Int) (p : Nat) (u : Nat → Int) : updR A p u p = u := by
  funext c
  unfold updR
  simp
theorem updR_off {A : Nat → Nat → Int} {p r : Nat} (u : Nat → Int) (h : r ≠ p) : updR A p u r = A r := by
  funext c
  unfold updR
  simp [h]
theorem swap_of {n p q : Nat} (hp : p < n) (hq : q < n) (hpq : p ≠ q)
    (h0 : ∀ A : Nat → Nat → Int, (∀ c, A p c = A q c) → det n A = 0) (A : Nat → Nat → Int) :
    det n (updR (updR A p (A q)) q (A p)) = - det n A := by
  have key : ∀ u v : Nat → Int, det n (updR (updR A p u) q v) + det n (updR (updR A p v) q u) = 0 := fun u v => by
    have z1 := h0 (updR (updR A p fun c => 1 * u c + 1 * v c) q fun c => 1 * u c + 1 * v c) (fun c => by rw [updR_off _ hpq, updR_at, updR_at])
    have z2 := h0 (updR (updR A p u) q u) (fun c => by rw [updR_off _ hpq, updR_at, updR_at])
    have z3 := h0 (updR (updR A p v) q v) (fun c => by rw [updR_off _ hpq, updR_at, updR_at])
    rw [det_lin hq, updR_comm hpq, det_lin hp, updR_comm hpq, det_lin hp, updR_comm (Ne.symm hpq), updR_comm (Ne.symm hpq), updR_comm (Ne.symm hpq), updR_comm (Ne.symm hpq)] at z1
    omega
  have := key (A p) (A q)
  rw [updR_self] at this
  rw [show updR A q (A q) = A from updR_self A q] at this
  omega
theorem det_same {n p q : Nat} (hpq : p < q) (hq : q < n) {A : Nat → Nat → Int} (h : ∀ c, A p c = A q c) : det n A = 0 := by
  obtain ⟨d, rfl⟩ : ∃ d, q = p + 1 + d := ⟨q - p - 1, by omega⟩
  induction d generalizing A with
  | zero => exact det_next hq h
  | succ d ih =>
    have hs := swap_of (n := n) (p := p + 1 + d) (q := p + 1 + d + 1) (by omega) (by omega) (by omega) (fun A hA => det_next (by omega) hA) A
    have hz := ih (A := updR (updR A (p + 1 + d) (A (p + 1 + d + 1))) (p + 1 + d + 1) (A (p + 1 + d))) (by omega) (by omega) (fun c => by
      rw [updR_off _ (by omega), updR_off _ (by omega), updR_off _ (by omega), updR_at]; exact h c)
    omega
theorem det_twice {n p q : Nat} (hpq : p ≠ q) (hp : p < n) (hq : q < n) {A : Nat → Nat → Int} (h : ∀ c, A p c = A q c) : det n A = 0 := by
  by_cases e : p < q
  · exact det_same e hq h
  · exact det_same (show q < p by omega) hp fun c => (h c).symm
theorem det_swap {n p q : Nat} (hp : p < n) (hq : q < n) (hpq : p ≠ q) (A : Nat → Nat → Int) : det n (updR (updR A p (A q)) q (A p)) = - det n A :=
  swap_of hp hq hpq (fun _ h => det_twice hpq hp hq h) A
theorem det_row {n p q : Nat} (hp : p < n) (hq : q < n) (hpq : p ≠ q) (A : Nat → Nat → Int) (x y : Int) :
    det n (updR A p fun c => x * A p c + y * A q c) = x * det n A := by
  rw [det_lin hp, updR_self, det_twice hpq hp hq (A := updR A p (A q)) (fun c => by rw [updR_at, updR_off _ (Ne.symm hpq)])]
  omega
def gone (k : Nat) (A : Nat → Nat → Int) : Nat → Nat → Int := fun r c => if 0 < r ∧ r ≤ k then A 0 0 * A r c - A r 0 * A 0 c else A r c
theorem det_gone {n : Nat} (A : Nat → Nat → Int) : ∀ k, k ≤ n → det (n + 1) (gone k A) = A 0 0 ^ k * det (n + 1) A := by
  intro k
  induction k with
  | zero => intro _; rw [show gone 0 A = A from by funext r c; unfold gone; rw [if_neg (by omega)]]; simp
  | succ k ih =>
    intro hk
    have e : gone (k + 1) A = updR (gone k A) (k + 1) fun c => A 0 0 * gone k A (k + 1) c + (- A (k + 1) 0) * gone k A 0 c := by
      funext r c
      unfold updR
      by_cases e : r = k + 1
      · subst e
        rw [if_pos rfl]
        have z1 : gone (k + 1) A (k + 1) c = A 0 0 * A (k + 1) c - A (k + 1) 0 * A 0 c := by unfold gone; rw [if_pos (by omega)]
        have z2 : gone k A (k + 1) c = A (k + 1) c := by unfold gone; rw [if_neg (by omega)]
        have z3 : gone k A 0 c = A 0 c := by unfold gone; rw [if_neg (by omega)]
        show _ = A 0 0 * gone k A (k + 1) c + (- A (k + 1) 0) * gone k A 0 c
        rw [z1, z2, z3]
        grind
      · rw [if_neg e]
        unfold gone
        by_cases e2 : 0 < r ∧ r ≤ k
        · rw [if_pos e2, if_pos (by omega)]
        · rw [if_neg e2, if_neg (by omega)]
    rw [e, det_row (by omega) (by omega) (by omega), ih (by omega), Int.pow_succ]
    grind
def chio (A : Nat → Nat → Int) : Nat → Nat → Int := fun i j => A 0 0 * A (i + 1) (j + 1) - A (i + 1) 0 * A 0 (j + 1)
theorem det_chio (n : Nat) (A : Nat → Nat → Int) : A 0 0 ^ n * det (n + 1) A = A 0 0 * det n (chio A) := by
  rw [← det_gone A n (Nat.le_refl n)]
  have h : det (n + 1) (gone n A) = sumN (n + 1) fun i => sg i * gone n A i 0 * det n fun r c => gone n A (sk i r) (c + 1) := rfl
  rw [h, sumN_one (p := 0) (by omega) (fun i hi h0 => by
    rw [show gone n A i 0 = 0 from by unfold gone; rw [if_pos (by omega)]; grind]; simp)]
  have e : det n (fun r c => gone n A (sk 0 r) (c + 1)) = det n (chio A) := det_congr fun r c hr hc => by
    rw [show sk 0 r = r + 1 from rfl]; unfold gone chio; rw [if_pos (by omega)]
  rw [e, show gone n A 0 0 = A 0 0 from by unfold gone; rw [if_neg (by omega)], show sg 0 = 1 from rfl, Int.one_mul]
theorem det_nil {n : Nat} {A : Nat → Nat → Int} (h : ∀ i, i < n + 1 → A i 0 = 0) : det (n + 1) A = 0 :=
  sumN_zero fun i hi => by rw [h i hi]; simp
theorem sumN_abs {n : Nat} {f : Nat → Int} {b : Nat} (h : ∀ i, i < n → (f i).natAbs ≤ b) : (sumN n f).natAbs ≤ n * b := by
  induction n with
  | zero => simp [sumN]
  | succ n ih =>
    have h1 := ih fun i hi => h i (by omega)
    have h2 := h n (by omega)
    have h3 := Int.natAbs_add_le (sumN n f) (f n)
    show (sumN n f + f n).natAbs ≤ _
    rw [Nat.succ_mul]
    omega
def fct : Nat → Nat
  | 0 => 1
  | n + 1 => (n + 1) * fct n
theorem det_abs {n m : Nat} {A : Nat → Nat → Int} (h : ∀ i j, i < n → j < n → (A i j).natAbs ≤ m) : (det n A).natAbs ≤ fct n * m ^ n := by
  induction n generalizing A with
  | zero => simp [det, fct]
  | succ n ih =>
    have h1 : (det (n + 1) A).natAbs ≤ (n + 1) * (m * (fct n * m ^ n)) := sumN_abs fun i hi => by
      have := ih (A := fun r c => A (sk i r) (c + 1)) fun r c hr hc => h _ _ (sk_lt hr) (by omega)
      rw [Int.natAbs_mul, Int.natAbs_mul, show (sg i).natAbs = 1 from by unfold sg; split <;> rfl, Nat.one_mul]
      exact Nat.mul_le_mul (h i 0 hi (by omega)) this
    rw [show fct (n + 1) * m ^ (n + 1) = (n + 1) * (m * (fct n * m ^ n)) from by rw [show fct (n + 1) = (n + 1) * fct n from rfl, Nat.pow_succ]; grind]
    exact h1
theorem det_two (A : Nat → Nat → Int) : det 2 A = A 0 0 * A 1 1 - A 1 0 * A 0 1 := by
  simp [det, sumN, sg, sk]; grind
theorem det_one (A : Nat → Nat → Int) : det 1 A = A 0 0 := by
  simp [det, sumN, sg]
theorem det_scale (n : Nat) (x : Int) (A : Nat → Nat → Int) : det n (fun i j => x * A i j) = x ^ n * det n A := by
  induction n generalizing A with
  | zero => simp [det]
  | succ n ih =>
    show sumN (n + 1) (fun i => sg i * (x * A i 0) * det n fun r c => x * A (sk i r) (c + 1)) = _ * sumN (n + 1) _
    rw [show ∀ f : Nat → Int, x ^ (n + 1) * sumN (n + 1) f = x ^ (n + 1) * sumN (n + 1) f + 0 * sumN (n + 1) f from fun f => by omega]
    refine sumN_lin fun i hi => ?_
    rw [ih (fun r c => A (sk i r) (c + 1)), Int.pow_succ]
    grind
def nxt (q : Int) (M : Nat → Nat → Int) : Nat → Nat → Int := fun i j => (chio M i j).tdiv q
def Good (q : Int) (b : Nat → Nat) (M : Nat → Nat → Int) : Prop :=
  ∀ (r : Nat) (R C : Nat → Nat), ∃ D : Int, det (r + 1) (fun i j => M (R i) (C j)) = q ^ r * D ∧ D.natAbs ≤ b r
def fst1 (R : Nat → Nat) : Nat → Nat
  | 0 => 0
  | i + 1 => R i + 1
theorem Good.entry {q : Int} {b : Nat → Nat} {M : Nat → Nat → Int} (h : Good q b M) (i j : Nat) : (M i j).natAbs ≤ b 0 := by
  obtain ⟨D, h1, h2⟩ := h 0 (fun _ => i) (fun _ => j)
  rw [det_one, Int.pow_zero, Int.one_mul] at h1
  rw [h1]; exact h2
theorem Good.exact {q : Int} {b : Nat → Nat} {M : Nat → Nat → Int} (h : Good q b M) (hq : q ≠ 0) (i j : Nat) : q * nxt q M i j = chio M i j := by
  obtain ⟨D, h1, _⟩ := h 1 (fst1 fun _ => i) (fst1 fun _ => j)
  rw [det_two, Int.pow_one] at h1
  have e : chio M i j = q * D := h1
  unfold nxt
  rw [e, Int.mul_tdiv_cancel_left _ hq]
theorem chio_fst (M : Nat → Nat → Int) (R C : Nat → Nat) : chio (fun i j => M (fst1 R i) (fst1 C j)) = fun i j => chio M (R i) (C j) := rfl
theorem pow_ne {q : Int} (hq : q ≠ 0) (n : Nat) : q ^ n ≠ 0 := by
  induction n with
  | zero => simp
  | succ n ih => rw [Int.pow_succ]; exact Int.mul_ne_zero ih hq
theorem mul_left_pow {q x y : Int} (hq : q ≠ 0) (n : Nat) (h : q ^ n * x = q ^ n * y) : x = y :=
  Int.eq_of_mul_eq_mul_left (pow_ne hq n) h
theorem minor_next {q : Int} {b : Nat → Nat} {M : Nat → Nat → Int} (h : Good q b M) (hq : q ≠ 0) (ha : M 0 0 ≠ 0) {r : Nat} {R C : Nat → Nat} {D : Int}
    (hD : det (r + 2) (fun i j => M (fst1 R i) (fst1 C j)) = q ^ (r + 1) * D) :
    det (r + 1) (fun i j => nxt q M (R i) (C j)) = M 0 0 ^ r * D := by
  have h1 := det_scale (r + 1) q (fun i j => nxt q M (R i) (C j))
  have h2 : (fun i j => q * nxt q M (R i) (C j)) = chio (fun i j => M (fst1 R i) (fst1 C j)) := by
    funext i j
    rw [chio_fst]
    exact h.exact hq _ _
  have h3 := det_chio (r + 1) (fun i j => M (fst1 R i) (fst1 C j))
  rw [h2] at h1
  rw [h1, hD] at h3
  have h4 : M 0 0 ^ (r + 1) * (q ^ (r + 1) * D) = M 0 0 * (q ^ (r + 1) * det (r + 1) fun i j => nxt q M (R i) (C j)) := h3
  rw [Int.pow_succ (M 0 0)] at h4
  refine mul_left_pow hq (r + 1) (Int.eq_of_mul_eq_mul_left ha ?_)
  grind
theorem Good.next {q : Int} {b : Nat → Nat} {M : Nat → Nat → Int} (h : Good q b M) (hq : q ≠ 0) (ha : M 0 0 ≠ 0) : Good (M 0 0) (fun r => b (r + 1)) (nxt q M) := fun r R C => by
  obtain ⟨D, h1, h2⟩ := h (r + 1) (fst1 R) (fst1 C)
  exact ⟨D, minor_next h hq ha h1, h2⟩
def Full (q : Int) (n : Nat) (M : Nat → Nat → Int) (D : Int) : Prop := q * det n M = q ^ n * D
theorem fst1_id : fst1 (fun i => i) = fun i => i := by funext i; cases i <;> rfl
theorem Full.next {q : Int} {b : Nat → Nat} {M : Nat → Nat → Int} {n : Nat} {D : Int} (h : Good q b M) (hq : q ≠ 0) (ha : M 0 0 ≠ 0) (hf : Full q (n + 1) M D) : Full (M 0 0) n (nxt q M) D := by
  unfold Full at hf ⊢
  cases n with
  | zero =>
    rw [det_one, Int.pow_succ, Int.pow_zero, Int.one_mul] at hf
    have := Int.eq_of_mul_eq_mul_left hq hf
    show _ * 1 = _
    rw [this]; simp
  | succ n =>
    have hf' : det (n + 2) M = q ^ (n + 1) * D := by
      refine Int.eq_of_mul_eq_mul_left hq ?_
      rw [hf, Int.pow_succ q (n + 1)]; grind
    have h2 := minor_next (R := fun i => i) (C := fun i => i) h hq ha (r := n) (D := D) (by rw [fst1_id]; exact hf')
    rw [h2, Int.pow_succ]; grind
theorem Full.zero {q D : Int} {M : Nat → Nat → Int} (h : Full q 0 M D) : D = q := by
  unfold Full at h
  simp [det] at h
  exact h.symm
theorem Full.nil {q D : Int} {n : Nat} {M : Nat → Nat → Int} (h : Full q (n + 1) M D) (hq : q ≠ 0) (hz : ∀ i, i < n + 1 → M i 0 = 0) : D = 0 := by
  unfold Full at h
  rw [det_nil hz, Int.mul_zero] at h
  rcases Int.mul_eq_zero.1 h.symm with e | e
  · exact absurd e (pow_ne hq _)
  · exact e
def add0 (k : Nat) (M : Nat → Nat → Int) : Nat → Nat → Int := updR M 0 fun c => M 0 c + M k c
def swp (k i : Nat) : Nat := if i = 0 then k else if i = k then 0 else i
theorem Good.swap {q : Int} {b : Nat → Nat} {M : Nat → Nat → Int} (h : Good q b M) (k : Nat) : Good q b (fun i j => M (swp k i) j) := fun r R C => h r (fun i => swp k (R i)) C
theorem Full.swap {q D : Int} {n k : Nat} {M : Nat → Nat → Int} (h : Full q n M D) (hn : 0 < n) (h0 : k ≠ 0) (hk : k < n) : Full q n (fun i j => M (swp k i) j) (-D) := by
  unfold Full at h ⊢
  have e : (fun i j => M (swp k i) j) = updR (updR M 0 (M k)) k (M 0) := by
    funext i j
    unfold updR swp
    by_cases e1 : i = 0
    · subst e1; rw [if_pos rfl, if_neg (Ne.symm h0), if_pos rfl]
    · rw [if_neg e1]
      by_cases e2 : i = k
      · rw [if_pos e2, if_pos e2]
      · rw [if_neg e2, if_neg e2, if_neg e1]
  rw [e, det_swap hn hk (Ne.symm h0)]
  grind
theorem Good.start {A : Nat → Nat → Int} {m : Nat} (h : ∀ i j, (A i j).natAbs ≤ m) : Good 1 (fun r => fct (r + 1) * m ^ (r + 1)) A := fun r R C =>
  ⟨_, by rw [Int.one_pow, Int.one_mul], det_abs fun i j _ _ => h _ _⟩
theorem Full.start (n : Nat) (A : Nat → Nat → Int) : Full 1 n A (det n A) := by unfold Full; rw [Int.one_pow]
def mins : Nat → Int → (Nat → Nat → Int) → List Int
  | 0, _, _ => []
  | n + 1, q, M => M 0 0 :: (if 0 < M 0 0 then mins n (M 0 0) (nxt q M) else [])
def quad (n : Nat) (M : Nat → Nat → Int) (x : Nat → Int) : Int := sumN n fun i => sumN n fun j => M i j * x i * x j
def PD (n : Nat) (M : Nat → Nat → Int) : Prop := ∀ x : Nat → Int, (∃ i, i < n ∧ x i ≠ 0) → 0 < quad n M x
def Symm (M : Nat → Nat → Int) : Prop := ∀ i j, M i j = M j i
theorem Symm.chio {M : Nat → Nat → Int} (h : Symm M) : Symm (chio M) := fun i j => by
  unfold Go.Proofs.YtnpaodlhhcnbgaaGreatDoor.chio; rw [h (i + 1) (j + 1), h (i + 1) 0, h 0 (j + 1)]; grind
theorem mins_len : ∀ (n : Nat) (q : Int) (M : Nat → Nat → Int), (mins n q M).length ≤ n := by
  intro n
  induction n with
  | zero => intro q M; exact Nat.le_refl _
  | succ n ih =>
    intro q M
    unfold mins
    have := ih (M 0 0) (nxt q M)
    split <;> simp <;> omega
theorem mins_all : ∀ (n : Nat) (q : Int) (M : Nat → Nat → Int), (∀ x ∈ mins n q M, 0 < x) ↔ n = 0 ∨ ((mins n q M).length = n ∧ 0 < (mins n q M).getD (n - 1) 0) := by
  intro n
  induction n with
  | zero => intro q M; simp [mins]
  | succ n ih =>
    intro q M
    have ih := ih (M 0 0) (nxt q M)
    have e : mins (n + 1) q M = M 0 0 :: (if 0 < M 0 0 then mins n (M 0 0) (nxt q M) else []) := rfl
    rw [e]
    have hl := mins_len n (M 0 0) (nxt q M)
    generalize mins n (M 0 0) (nxt q M) = L at ih hl ⊢
    by_cases ha : 0 < M 0 0
    · rw [if_pos ha]
      cases n with
      | zero =>
        obtain rfl : L = [] := List.length_eq_zero_iff.1 (by omega)
        simp [ha]
      | succ n =>
        simp [ha] at ih ⊢
        rw [ih]
    · rw [if_neg ha]
      simp [ha]
      intro h; subst h; simp; omega
theorem mins_congr : ∀ {n : Nat} {q : Int} {A B : Nat → Nat → Int}, (∀ i j, i < n → j < n → A i j = B i j) → mins n q A = mins n q B := by
  intro n
  induction n with
  | zero => intro q A B _; rfl
  | succ n ih =>
    intro q A B h
    show A 0 0 :: (if 0 < A 0 0 then mins n (A 0 0) (nxt q A) else []) = B 0 0 :: (if 0 < B 0 0 then mins n (B 0 0) (nxt q B) else [])
    rw [h 0 0 (by omega) (by omega), ih (A := nxt q A) (B := nxt q B) fun i j hi hj => by unfold nxt chio; rw [h 0 0 (by omega) (by omega), h (i + 1) (j + 1) (by omega) (by omega), h (i + 1) 0 (by omega) (by omega), h 0 (j + 1) (by omega) (by omega)]]
end Go.Proofs.YtnpaodlhhcnbgaaGreatDoor
namespace Go.Proofs.YtnpaodlhhcnbgaaGreatDoor
open Go Go.RowKit
set_option maxRecDepth 100000
def Mat (s : Nat) (L : List (List Int)) (M : Nat → Nat → Int) : Prop := L.length = s ∧ ∀ i, i < s → (L.getD i []).length = s ∧ ∀ j, j < s → zth (L.getD i []) j = M i j
def bb (k r : Nat) : Nat := 2 ^ k * (fct (r + k + 1) * 1073741824 ^ (r + k + 1))
theorem bb_succ (k r : Nat) : bb (k + 1) r = 2 * bb k (r + 1) := by
  unfold bb
  rw [show r + (k + 1) + 1 = r + 1 + k + 1 by omega, Nat.pow_succ, Nat.mul_comm (2 ^ k) 2, Nat.mul_assoc]
theorem bp5_is : bp 5 = 18446744073709551616 * 18446744073709551616 * 18446744073709551616 * 18446744073709551616 * 18446744073709551616 := by
  rw [bp_succ 4, bp_succ 3, bp_succ 2, bp_succ 1, bp_succ 0, bp_zero, Nat.one_mul]
theorem bb_bp {k : Nat} (h : k ≤ 7) : bb k 0 < bp 5 := by
  rw [bp5_is]
  rcases k with _ | _ | _ | _ | _ | _ | _ | _ | k
  · decide +kernel
  · decide +kernel
  · decide +kernel
  · decide +kernel
  · decide +kernel
  · decide +kernel
  · decide +kernel
  · decide +kernel
  · omega
def St (q : Int) (k : Nat) (M : Nat → Nat → Int) : Prop := Good q (bb k) M ∧ q ≠ 0 ∧ q.natAbs < bp 5
theorem Good.mono {q : Int} {b c : Nat → Nat} {M : Nat → Nat → Int} (h : Good q b M) (hbc : ∀ r, b r ≤ c r) : Good q c M := fun r R C => by
  obtain ⟨D, h1, h2⟩ := h r R C
  exact ⟨D, h1, Nat.le_trans h2 (hbc r)⟩
theorem St.entry {q : Int} {k : Nat} {M : Nat → Nat → Int} (h : St q k M) (hk : k ≤ 7) (i j : Nat) : (M i j).natAbs < bp 5 := Nat.lt_of_le_of_lt (h.1.entry i j) (bb_bp hk)
theorem St.next {q : Int} {k : Nat} {M : Nat → Nat → Int} (h : St q k M) (hk : k ≤ 7) (ha : M 0 0 ≠ 0) : St (M 0 0) (k + 1) (nxt q M) :=
  ⟨(h.1.next h.2.1 ha).mono fun r => by rw [bb_succ]; omega, ha, h.entry hk 0 0⟩
def AM (n : Nat) (l : List Int) : Nat → Nat → Int := fun i j => if i < n ∧ j < n then ent n l i j else 0
theorem AM_at {n : Nat} {l : List Int} {i j : Nat} (hi : i < n) (hj : j < n) : AM n l i j = ent n l i j := by unfold AM; rw [if_pos ⟨hi, hj⟩]
theorem AM_abs {n : Nat} {l : List Int} (hR : rt n l = true) (i j : Nat) : (AM n l i j).natAbs ≤ 1073741824 := by
  unfold AM
  split
  · rename_i h
    obtain ⟨k, _, hk, he⟩ := idx_nat hR (show rng (n : Int) i j = true from decide_eq_true (by omega))
    rw [he]
    have := of_decide_eq_true ((rt_spec hR).2.2.2 k hk)
    omega
  · simp
theorem St.start {n : Nat} {l : List Int} (hR : rt n l = true) : St 1 0 (AM n l) :=
  ⟨(Good.start (AM_abs hR)).mono fun r => by unfold bb; rw [Nat.pow_zero, Nat.one_mul, Nat.add_zero]; exact Nat.le_refl _, by decide, by have := bp_mono (show 1 ≤ 5 by omega); rw [bp_succ 0, bp_zero] at this; show (1 : Nat) < bp 5; omega⟩
theorem Mat.start (n : Nat) (l : List Int) : Mat n (sqE n l) (AM n l) := by
  have hl : (sqE n l).length = n := by unfold sqE; simp
  refine ⟨hl, fun i hi => ?_⟩
  have e : (sqE n l).getD i [] = rowE n l i := by
    rw [List.getD_eq_getElem?_getD]
    unfold sqE
    rw [List.getElem?_map, List.getElem?_range hi]
    rfl
  rw [e]
  refine ⟨mk_len _ _, fun j hj => ?_⟩
  unfold rowE
  rw [mk_at hj, AM_at hi hj]
theorem zth_far {l : List Int} {k : Nat} (h : l.length ≤ k) : zth l k = 0 := by
  unfold zth
  rw [List.getD_eq_getElem?_getD, List.getElem?_eq_none h]
  rfl
theorem Mat.few {s k : Nat} {q : Int} {L : List (List Int)} {M : Nat → Nat → Int} (h : Mat s L M) (hs : St q k M) (hk : k ≤ 7) (i : Nat) : Few (L.getD i []) := fun j => by
  have h0 : (0 : Int).natAbs < bp 5 := bp_pos 5
  by_cases hi : i < s
  · obtain ⟨h1, h2⟩ := h.2 i hi
    by_cases hj : j < s
    · rw [h2 j hj]; exact hs.entry hk i j
    · rw [zth_far (by omega)]; exact h0
  · rw [List.getD_eq_getElem?_getD, List.getElem?_eq_none (by rw [h.1]; omega)]
    show (zth [] j).natAbs < _
    rw [zth_far (Nat.zero_le _)]; exact h0
theorem Mat.next {n : Nat} {q : Int} {L : List (List Int)} {M : Nat → Nat → Int} (h : Mat (n + 1) L M) : Mat n ((L.drop 1).map fun R => tk (L.getD 0 []) R q n) (nxt q M) := by
  have hl : (L.drop 1).length = n := by rw [List.length_drop, h.1]; omega
  refine ⟨by rw [List.length_map, hl], fun i hi => ?_⟩
  have e : (((L.drop 1).map fun R => tk (L.getD 0 []) R q n).getD i []) = tk (L.getD 0 []) (L.getD (i + 1) []) q n := by
    rw [List.getD_eq_getElem?_getD, List.getElem?_map, List.getElem?_eq_getElem (by omega), List.getElem_drop]
    have : L.getD (i + 1) [] = L[1 + i]'(by rw [h.1]; omega) := by
      rw [List.getD_eq_getElem?_getD, Nat.add_comm, List.getElem?_eq_getElem (by rw [h.1]; omega)]
      rfl
    rw [this]
    rfl
  rw [e]
  refine ⟨mk_len _ _, fun j hj => ?_⟩
  unfold tk
  rw [mk_at hj, (h.2 0 (by omega)).2 0 (by omega), (h.2 0 (by omega)).2 (j + 1) (by omega), (h.2 (i + 1) (by omega)).2 0 (by omega), (h.2 (i + 1) (by omega)).2 (j + 1) (by omega)]
  rfl
theorem Mat.rest {n : Nat} {L : List (List Int)} {M : Nat → Nat → Int} (h : Mat (n + 1) L M) : ∀ i, i < (L.drop 1).length → ((L.drop 1).getD i []).length = n + 1 := fun i hi => by
  have hl : (L.drop 1).length = n := by rw [List.length_drop, h.1]; omega
  rw [show (L.drop 1).getD i [] = L.getD (i + 1) [] from by rw [List.getD_eq_getElem?_getD, List.getD_eq_getElem?_getD, List.getElem?_drop, Nat.add_comm]]
  exact (h.2 (i + 1) (by omega)).1
def mnC (N : Int) (l : List Int) : Int := if rt N l then 0 else 23
def mnR (N : Int) (l : List Int) : List Int := if rt N l then mins N.toNat 1 (AM N.toNat l) else []
def elimB : ByteArray := ⟨#[101, 108, 105, 109]⟩
def ErrsE (w : World) (u : Value) (e : Int) : Prop := (e = 0 ∧ u = .nilIface) ∨ (e ≠ 0 ∧ ∃ t x, u = .iface t x ∧ IsEr w u (.flt elimB (.num e)))
theorem undRbs : Tryz.prog.underlying 103 = some (.slice 49) := by kernel_rfl
theorem infoRbs : (Tryz.prog.info? 49).map (fun i => (i.zero, i.size, i.bytes)) = some (some (.slice none 0 0), 1, 24) := by kernel_rfl
def RowB (w : World) (g : Nat) (l : List Int) : Prop := ∃ C, Blk w g 46 C ∧ l.length * 2 ≤ C.size ∧ ∀ j, j < l.length → BigAt w (fun k => C[k]?) j (zth l j)
theorem RowB.up {w w' : World} (hu : Up w w') {g : Nat} {l : List Int} (h : RowB w g l) : RowB w' g l := by
  obtain ⟨C, h1, h2, h3⟩ := h
  exact ⟨C, h1.up hu, h2, fun j hj => (h3 j hj).up hu⟩
theorem RowB.lt {w : World} {g : Nat} {l : List Int} (h : RowB w g l) : g < w.heap.size := by
  obtain ⟨C, h1, _⟩ := h
  exact h1.lt
theorem Big.grownR {w w' : World} {row : Option Nat} {v : Value} {z : Int} (h : Big w v z) (hg : w.grownBy w' row) (hr : ∀ k, row = some k → ∃ C, Blk w k 49 C) : Big w' v z := by
  obtain ⟨a, c, h1, a2, c2, h2, h3, h4⟩ := h
  refine ⟨a, c, h1, a2, c2, h2, h3, fun h0 => ?_⟩
  obtain ⟨b, E, h5, h6, h7⟩ := h4 h0
  refine ⟨b, E, h5, ?_, h7⟩
  unfold Blk
  rw [hg.block b h6.lt ?_]
  · exact h6
  · intro e
    obtain ⟨C, hC⟩ := hr b e.symm
    unfold Blk at hC h6
    rw [hC] at h6
    simp at h6
theorem RowB.grown {w w' : World} {row : Option Nat} {g : Nat} {l : List Int} (h : RowB w g l) (hg : w.grownBy w' row) (hr : ∀ k, row = some k → ∃ C, Blk w k 49 C) : RowB w' g l := by
  obtain ⟨C, h1, h2, h3⟩ := h
  refine ⟨C, ?_, h2, fun j hj => ?_⟩
  · unfold Blk
    rw [hg.block g h1.lt ?_]
    · exact h1
    · intro e
      obtain ⟨D, hD⟩ := hr g e.symm
      unfold Blk at hD h1
      rw [hD] at h1
      simp at h1
  · obtain ⟨b, a, n, c, h4, h5, h6⟩ := h3 j hj
    exact ⟨b, a, n, c, h4, h5, h6.grownR hg hr⟩
theorem OwnB.rowB {w : World} {base g n c : Nat} {l : List Int} (h : OwnB w base (.slice (some ⟨g, 0, none⟩) n c) l) (h0 : 0 < l.length) : RowB w g l ∧ base ≤ g := by
  obtain ⟨g', cap, C, hv, hb, hB, hc, _, hs, hE⟩ := h.open h0
  injection hv with e1
  injection e1 with e1
  injection e1 with e1
  subst e1
  exact ⟨⟨C, hB, by omega, hE⟩, hb⟩
def OwnM (w : World) (base : Nat) (v : Value) (n m : Nat) (G : Nat → Nat) (V : Nat → Nat → Int) : Prop :=
  ∃ xs : List Value, w.ownsRow base 49 1 v n xs ∧ (∀ i, i < n → ∃ c, xs[i]? = some (.slice (some ⟨G i, 0, none⟩) m c)) ∧ (∀ i, i < n → base ≤ G i ∧ RowB w (G i) (mk m (V i))) ∧ ∀ i j, i < n → j < n → G i = G j → i = j
theorem OwnM.up {w w' : World} (hu : Up w w') {base n m : Nat} {v : Value} {G : Nat → Nat} {V : Nat → Nat → Int} (h : OwnM w base v n m G V) : OwnM w' base v n m G V := by
  obtain ⟨xs, h1, h2, h3, h4⟩ := h
  exact ⟨xs, World.ownsRow.up h1 hu, h2, fun i hi => ⟨(h3 i hi).1, (h3 i hi).2.up hu⟩, h4⟩
theorem OwnM.nil (w : World) (base m : Nat) (G : Nat → Nat) (V : Nat → Nat → Int) : OwnM w base (.slice none 0 0) 0 m G V :=
  ⟨[], World.ownsRow_nil _ _ _ _, fun _ hi => absurd hi (Nat.not_lt_zero _), fun _ hi => absurd hi (Nat.not_lt_zero _), fun _ _ hi => absurd hi (Nat.not_lt_zero _)⟩
theorem OwnM.congr {w : World} {base n m : Nat} {v : Value} {G : Nat → Nat} {V K : Nat → Nat → Int} (h : OwnM w base v n m G V) (hVK : ∀ i j, i < n → j < m → V i j = K i j) : OwnM w base v n m G K := by
  obtain ⟨xs, h1, h2, h3, h4⟩ := h
  refine ⟨xs, h1, h2, fun i hi => ?_, h4⟩
  have e : mk m (V i) = mk m (K i) := zth_ext (by rw [mk_len, mk_len]) fun j hj => by rw [mk_len] at hj; rw [mk_at hj, mk_at hj, hVK i j hi hj]
  rw [← e]
  exact h3 i hi
theorem OwnM.open {w : World} {base n m : Nat} {v : Value} {G : Nat → Nat} {V : Nat → Nat → Int} (h : OwnM w base v n m G V) (h0 : 0 < n) :
    ∃ g cap C, v = .slice (some ⟨g, 0, none⟩) n cap ∧ base ≤ g ∧ n ≤ cap ∧ Blk w g 49 C ∧ ∀ i, i < n → ∃ c, C[i]? = some (.slice (some ⟨G i, 0, none⟩) m c) := by
  obtain ⟨xs, ⟨_, h1 | ⟨g, cap, cur, hv, hb, hB, hc, _, _, ht⟩⟩, h2, _⟩ := h
  · omega
  · refine ⟨g, cap, cur, hv, hb, hc, hB, fun i hi => ?_⟩
    obtain ⟨c, h3⟩ := h2 i hi
    rw [← ht, List.getElem?_take_of_lt (by omega), Array.getElem?_toList] at h3
    exact ⟨c, h3⟩
theorem OwnM.slice {w : World} {base n m : Nat} {v : Value} {G : Nat → Nat} {V : Nat → Nat → Int} (h : OwnM w base v n m G V) : ∃ p c, v = .slice p n c := by
  obtain ⟨xs, ⟨_, ⟨rfl, h1⟩ | ⟨g, cap, cur, hv, _⟩⟩, _⟩ := h
  · exact ⟨none, 0, by rw [h1]⟩
  · exact ⟨_, cap, hv⟩
theorem OwnM.entry {w : World} {base n m : Nat} {v : Value} {G : Nat → Nat} {V : Nat → Nat → Int} (h : OwnM w base v n m G V) {i j : Nat} (hi : i < n) (hj : j < m) :
    ∃ C b a k c, Blk w (G i) 46 C ∧ m * 2 ≤ C.size ∧ C[j * 2]? = some (.bool b) ∧ C[j * 2 + 1]? = some (.slice a k c) ∧ Big w (.agg #[.bool b, .slice a k c]) (V i j) := by
  obtain ⟨xs, _, _, h3, _⟩ := h
  obtain ⟨_, C, h4, h5, h6⟩ := h3 i hi
  rw [mk_len] at h5 h6
  obtain ⟨b, a, k, c, h7, h8, h9⟩ := h6 j hj
  rw [mk_at hj] at h9
  exact ⟨C, b, a, k, c, h4, h5, h7, h8, h9⟩
def upd2 (V : Nat → Nat → Int) (a b : Nat) (z : Int) : Nat → Nat → Int := fun i j => if i = a ∧ j = b then z else V i j
theorem RowB.other {w : World} {g p : Nat} {C : Array Value} {l : List Int} (h : RowB w g l) (hC : Blk w p 46 C) (D : Array Value) (hne : g ≠ p) : RowB (w.setRow p D) g l := by
  obtain ⟨E, h1, h2, h3⟩ := h
  refine ⟨E, h1.row_other D hne, h2, fun j hj => ?_⟩
  obtain ⟨b, a, n, c, h4, h5, h6⟩ := h3 j hj
  exact ⟨b, a, n, c, h4, h5, h6.setRow hC⟩
theorem OwnM.set {w : World} {base n m : Nat} {v : Value} {G : Nat → Nat} {V : Nat → Nat → Int} (h : OwnM w base v n m G V) {i j : Nat} (hi : i < n) (hj : j < m) {C : Array Value} (hC : Blk w (G i) 46 C)
    {b : Bool} {p : Option Addr} {k c : Nat} {z : Int} (hz : Big w (.agg #[.bool b, .slice p k c]) z) :
    OwnM (w.setRow (G i) (splB C (j * 2) [.bool b, .slice p k c])) base v n m G (upd2 V i j z) ∧ j * 2 + 2 ≤ C.size := by
  obtain ⟨xs, ⟨h0, h1⟩, h2, h3, h4⟩ := h
  obtain ⟨_, C', h5, h6, h7⟩ := h3 i hi
  have hCC : C' = C := by
    unfold Blk at hC h5
    rw [hC] at h5
    simp at h5
    exact h5.symm
  subst hCC
  rw [mk_len] at h6 h7
  have hl : j * 2 + 2 ≤ C'.size := by omega
  refine ⟨⟨xs, ⟨h0, ?_⟩, h2, fun i' hi' => ⟨(h3 i' hi').1, ?_⟩, h4⟩, hl⟩
  · rcases h1 with h1 | ⟨g, cap, cur, hv, hb, hB, hr⟩
    · exact .inl h1
    · refine .inr ⟨g, cap, cur, hv, hb, Blk.row_other (w := w) hB _ fun e => ?_, hr⟩
      subst e
      unfold Blk at hC
      rw [hC] at hB
      simp at hB
  · by_cases e : i' = i
    · subst e
      refine ⟨splB C' (j * 2) [.bool b, .slice p k c], hC.setRow _, by rw [mk_len, splB_size hl]; exact h6, fun q hq => ?_⟩
      rw [mk_len] at hq
      rw [mk_at hq]
      by_cases eq : q = j
      · subst eq
        refine ⟨b, p, k, c, by dsimp only; rw [splB_get hl, if_pos rfl], by dsimp only; rw [splB_get hl, if_neg (by omega), if_pos rfl], ?_⟩
        unfold upd2
        rw [if_pos ⟨rfl, rfl⟩]
        exact hz.setRow hC
      · obtain ⟨b', a', n', c', e1, e2, e3⟩ := h7 q hq
        rw [mk_at hq] at e3
        refine ⟨b', a', n', c', by dsimp only; rw [splB_get hl, if_neg (by omega), if_neg (by omega)]; exact e1, by dsimp only; rw [splB_get hl, if_neg (by omega), if_neg (by omega)]; exact e2, ?_⟩
        unfold upd2
        rw [if_neg (fun x => eq x.2)]
        exact e3.setRow hC
    · have e2 : mk m (upd2 V i j z i') = mk m (V i') := zth_ext (by rw [mk_len, mk_len]) fun q hq => by
        rw [mk_len] at hq
        rw [mk_at hq, mk_at hq]
        unfold upd2
        rw [if_neg (fun x => e x.1)]
      rw [e2]
      exact (h3 i' hi').2.other hC _ (fun x => e (h4 i' i hi' hi x))
theorem appM {ops : Array Oper} {rest : List Oper} {Q : Exit → Act → World → Prop} {a : Act} {w : World} {d : Option Tmp} {s u : Operand} {ty : TypeId} {pos : String} {af : Array Edge} {base b g c r n m cr : Nat} {v : Value} {G : Nat → Nat} {V : Nat → Nat → Int}
    (hs : a.eval s = v) (hu : a.eval u = .slice (some ⟨g, 0, none⟩) 1 c) (hown : OwnM w base v n m G V) (hV : w.cell? ⟨g, 0, none⟩ = some (.slice (some ⟨r, 0, none⟩) m cr)) (hx : RowB w r (mk m (V n))) (hG : ∀ i, i < n → G i < b) (hr : b ≤ r) (hbr : base ≤ b) (hbase : base ≤ w.heap.size) (hl : n < 1000000)
    (h : ∀ v' w', OwnM w' base v' (n + 1) m (fun i => if i = n then r else G i) V → Below base w w' → (∀ i, i < n + 1 → (if i = n then r else G i) < w'.heap.size) → wpList Tryz.prog ops Q rest (a.put d v') w') :
    wpList Tryz.prog ops Q ({ dst := d, op := .call { callee := .builtin .append, args := #[s, u], argTypes := #[103, 103] }, type := ty, pos := pos, after := af, guard := none } :: rest) a w := by
  obtain ⟨i0, hi0, he⟩ := Option.map_eq_some_iff.1 infoRbs
  simp only [Prod.mk.injEq] at he
  obtain ⟨xs, hxs, hE, hRw, hInj⟩ := hown
  have hlt := World.ownsRow.lt hxs
  have hrow : ∀ k, v.ownBlock = some k → ∃ C, Blk w k 49 C := by
    intro k hk
    obtain ⟨_, ⟨rfl, _⟩ | ⟨g', cap, cur, rfl, _, hB, _⟩⟩ := hxs
    · simp [Value.ownBlock] at hk
    · simp [Value.ownBlock] at hk; subst hk; exact ⟨cur, hB⟩
  have hxl : xs.length = n := by have := hxs.1; omega
  refine wpList_append_own w rfl s u 103 rfl base 49 i0 _ 1 24 undRbs hi0 he.1 he.2.1 he.2.2 rfl (by decide) v n xs hs hxs ⟨g, 0, none⟩ 1 c [.slice (some ⟨r, 0, none⟩) m cr] hu rfl (fun j y hy => by
    rcases j with _ | j
    · simp at hy; subst hy; rw [Addr.add_mid]; exact hV
    · simp at hy) (by simp [Value.oneCell']) (by unfold maxLen; omega) (by omega) hbase ?_
  intro v' w' h1 h2 _
  refine h v' w' ⟨xs ++ [.slice (some ⟨r, 0, none⟩) m cr], h1, fun i hi => ?_, fun i hi => ?_, fun i j hi hj e => ?_⟩ ⟨h2.os, h2.tape, h2.output, h2.size, fun k hk => h2.block k (by omega) fun e => ?_⟩ (fun i hi => ?_)
  · by_cases e : i < n
    · obtain ⟨c', h3⟩ := hE i e
      refine ⟨c', ?_⟩
      dsimp only
      rw [List.getElem?_append_left (by omega), if_neg (by omega)]
      exact h3
    · obtain rfl : i = n := by omega
      exact ⟨cr, by dsimp only; rw [List.getElem?_append_right (by omega), hxl, Nat.sub_self, if_pos rfl]; rfl⟩
  · by_cases e : i < n
    · dsimp only
      rw [if_neg (by omega)]
      exact ⟨(hRw i e).1, (hRw i e).2.grown h2 hrow⟩
    · obtain rfl : i = n := by omega
      dsimp only
      rw [if_pos rfl]
      exact ⟨by omega, hx.grown h2 hrow⟩
  · by_cases e1 : i = n <;> by_cases e2 : j = n
    · omega
    · dsimp only at e
      rw [if_pos e1, if_neg e2] at e
      have := hG j (by omega); omega
    · dsimp only at e
      rw [if_neg e1, if_pos e2] at e
      have := hG i (by omega); omega
    · dsimp only at e
      rw [if_neg e1, if_neg e2] at e
      exact hInj i j (by omega) (by omega) e
  · have := hlt k e.symm
    omega
  · have hsz := h2.size
    by_cases e : i = n
    · rw [if_pos e]; have := hx.lt; omega
    · rw [if_neg e]; have := (hRw i (by omega)).2.lt; omega
theorem OwnB.mono {w : World} {b b' : Nat} {v : Value} {l : List Int} (h : OwnB w b v l) (hb : b' ≤ b) : OwnB w b' v l := by
  obtain ⟨xs, ⟨h0, h1⟩, h2⟩ := h
  refine ⟨xs, ⟨h0, ?_⟩, h2⟩
  rcases h1 with h1 | ⟨g, cap, cur, hv, hg, hr⟩
  · exact .inl h1
  · exact .inr ⟨g, cap, cur, hv, by omega, hr⟩
theorem BigAt.grownR {w w' : World} {row : Option Nat} {get : Nat → Option Value} {i : Nat} {z : Int} (h : BigAt w get i z) (hg : w.grownBy w' row) (hr : ∀ k, row = some k → ∃ C, Blk w k 49 C) : BigAt w' get i z := by
  obtain ⟨b, a, n, c, h1, h2, h3⟩ := h
  exact ⟨b, a, n, c, h1, h2, h3.grownR hg hr⟩
theorem OwnB.grownR {w w' : World} {row : Option Nat} {b : Nat} {v : Value} {l : List Int} (h : OwnB w b v l) (hg : w.grownBy w' row) (hr : ∀ k, row = some k → ∃ C, Blk w k 49 C) : OwnB w' b v l := by
  obtain ⟨xs, ⟨h0, h1⟩, h2⟩ := h
  refine ⟨xs, ⟨h0, ?_⟩, fun i hi => (h2 i hi).grownR hg hr⟩
  rcases h1 with h1 | ⟨g, cap, cur, hv, hb, hB, hq⟩
  · exact .inl h1
  · refine .inr ⟨g, cap, cur, hv, hb, ?_, hq⟩
    show Blk w' g _ _
    unfold Blk
    rw [hg.block g (show Blk w g _ _ from hB).lt ?_]
    · exact hB
    · intro e
      obtain ⟨C, hC⟩ := hr g e.symm
      unfold Blk at hC
      rw [hC] at hB
      simp at hB
def OwnG (w : World) (base : Nat) (v : Value) (n : Nat) (mf G : Nat → Nat) (V : Nat → Nat → Int) : Prop :=
  ∃ (xs : List Value) (Cp : Nat → Nat), w.ownsRow base 49 1 v n xs ∧ (∀ i, i < n → xs[i]? = some (.slice (some ⟨G i, 0, none⟩) (mf i) (Cp i))) ∧ (∀ i, i < n → base ≤ G i ∧ 0 < mf i ∧ OwnB w base (.slice (some ⟨G i, 0, none⟩) (mf i) (Cp i)) (mk (mf i) (V i))) ∧ ∀ i j, i < n → j < n → G i = G j → i = j
theorem OwnG.up {w w' : World} (hu : Up w w') {base n : Nat} {v : Value} {mf G : Nat → Nat} {V : Nat → Nat → Int} (h : OwnG w base v n mf G V) : OwnG w' base v n mf G V := by
  obtain ⟨xs, Cp, h1, h2, h3, h4⟩ := h
  exact ⟨xs, Cp, World.ownsRow.up h1 hu, h2, fun i hi => ⟨(h3 i hi).1, (h3 i hi).2.1, (h3 i hi).2.2.up hu⟩, h4⟩
theorem OwnG.nil (w : World) (base : Nat) (mf G : Nat → Nat) (V : Nat → Nat → Int) : OwnG w base (.slice none 0 0) 0 mf G V :=
  ⟨[], fun _ => 0, World.ownsRow_nil _ _ _ _, fun _ hi => absurd hi (Nat.not_lt_zero _), fun _ hi => absurd hi (Nat.not_lt_zero _), fun _ _ hi => absurd hi (Nat.not_lt_zero _)⟩
theorem OwnG.slice {w : World} {base n : Nat} {v : Value} {mf G : Nat → Nat} {V : Nat → Nat → Int} (h : OwnG w base v n mf G V) : ∃ p c, v = .slice p n c := by
  obtain ⟨xs, Cp, ⟨_, ⟨rfl, h1⟩ | ⟨g, cap, cur, hv, _⟩⟩, _⟩ := h
  · exact ⟨none, 0, by rw [h1]⟩
  · exact ⟨_, cap, hv⟩
theorem OwnG.rowB {w : World} {base n : Nat} {v : Value} {mf G : Nat → Nat} {V : Nat → Nat → Int} (h : OwnG w base v n mf G V) {i : Nat} (hi : i < n) : RowB w (G i) (mk (mf i) (V i)) := by
  obtain ⟨xs, Cp, _, _, h3, _⟩ := h
  obtain ⟨_, h0, h4⟩ := h3 i hi
  exact (h4.rowB (by rw [mk_len]; exact h0)).1
theorem OwnG.m {w : World} {base n m : Nat} {v : Value} {mf G : Nat → Nat} {V : Nat → Nat → Int} (h : OwnG w base v n mf G V) (hm : ∀ i, i < n → mf i = m) : OwnM w base v n m G V := by
  have hR := fun i hi => h.rowB (i := i) hi
  obtain ⟨xs, Cp, h1, h2, h3, h4⟩ := h
  exact ⟨xs, h1, fun i hi => ⟨Cp i, by rw [← hm i hi]; exact h2 i hi⟩, fun i hi => ⟨(h3 i hi).1, by rw [← hm i hi]; exact hR i hi⟩, h4⟩
theorem OwnG.congr {w : World} {base n : Nat} {v : Value} {mf mf' G : Nat → Nat} {V K : Nat → Nat → Int} (h : OwnG w base v n mf G V) (hm : ∀ i, i < n → mf i = mf' i) (hVK : ∀ i j, i < n → j < mf i → V i j = K i j) : OwnG w base v n mf' G K := by
  obtain ⟨xs, Cp, h1, h2, h3, h4⟩ := h
  refine ⟨xs, Cp, h1, fun i hi => by rw [← hm i hi]; exact h2 i hi, fun i hi => ?_, h4⟩
  have e : mk (mf i) (V i) = mk (mf i) (K i) := zth_ext (by rw [mk_len, mk_len]) fun j hj => by rw [mk_len] at hj; rw [mk_at hj, mk_at hj, hVK i j hi hj]
  rw [← hm i hi, ← e]
  exact h3 i hi
theorem appG {ops : Array Oper} {rest : List Oper} {Q : Exit → Act → World → Prop} {a : Act} {w : World} {d : Option Tmp} {s u : Operand} {ty : TypeId} {pos : String} {af : Array Edge} {base b g c r n m cr : Nat} {v : Value} {G : Nat → Nat} {V : Nat → Nat → Int}
    (hs : a.eval s = v) (hu : a.eval u = .slice (some ⟨g, 0, none⟩) 1 c) (hown : OwnG w base v n (fun _ => m) G V) (hV : w.cell? ⟨g, 0, none⟩ = some (.slice (some ⟨r, 0, none⟩) m cr)) (hx : OwnB w b (.slice (some ⟨r, 0, none⟩) m cr) (mk m (V n))) (h0 : 0 < m) (hG : ∀ i, i < n → G i < b) (hbr : base ≤ b) (hbase : base ≤ w.heap.size) (hl : n < 1000000)
    (h : ∀ v' w', OwnG w' base v' (n + 1) (fun _ => m) (fun i => if i = n then r else G i) V → Below base w w' → (∀ i, i < n + 1 → (if i = n then r else G i) < w'.heap.size) → wpList Tryz.prog ops Q rest (a.put d v') w') :
    wpList Tryz.prog ops Q ({ dst := d, op := .call { callee := .builtin .append, args := #[s, u], argTypes := #[103, 103] }, type := ty, pos := pos, after := af, guard := none } :: rest) a w := by
  obtain ⟨i0, hi0, he⟩ := Option.map_eq_some_iff.1 infoRbs
  simp only [Prod.mk.injEq] at he
  have hRB := fun i hi => hown.rowB (i := i) hi
  obtain ⟨xs, Cp, hxs, hE, hRw, hInj⟩ := hown
  have hlt := World.ownsRow.lt hxs
  have hrow : ∀ k, v.ownBlock = some k → ∃ C, Blk w k 49 C := by
    intro k hk
    obtain ⟨_, ⟨rfl, _⟩ | ⟨g', cap, cur, rfl, _, hB, _⟩⟩ := hxs
    · simp [Value.ownBlock] at hk
    · simp [Value.ownBlock] at hk; subst hk; exact ⟨cur, hB⟩
  have hxl : xs.length = n := by have := hxs.1; omega
  obtain ⟨hrb, hr⟩ := hx.rowB (by rw [mk_len]; exact h0)
  refine wpList_append_own w rfl s u 103 rfl base 49 i0 _ 1 24 undRbs hi0 he.1 he.2.1 he.2.2 rfl (by decide) v n xs hs hxs ⟨g, 0, none⟩ 1 c [.slice (some ⟨r, 0, none⟩) m cr] hu rfl (fun j y hy => by
    rcases j with _ | j
    · simp at hy; subst hy; rw [Addr.add_mid]; exact hV
    · simp at hy) (by simp [Value.oneCell']) (by unfold maxLen; omega) (by omega) hbase ?_
  intro v' w' h1 h2 _
  refine h v' w' ⟨xs ++ [.slice (some ⟨r, 0, none⟩) m cr], fun i => if i = n then cr else Cp i, h1, fun i hi => ?_, fun i hi => ?_, fun i j hi hj e => ?_⟩ ⟨h2.os, h2.tape, h2.output, h2.size, fun k hk => h2.block k (by omega) fun e => ?_⟩ (fun i hi => ?_)
  · by_cases e : i < n
    · dsimp only
      rw [List.getElem?_append_left (by omega), if_neg (by omega), if_neg (by omega)]
      exact hE i e
    · obtain rfl : i = n := by omega
      dsimp only
      rw [List.getElem?_append_right (by omega), hxl, Nat.sub_self, if_pos rfl, if_pos rfl]
      rfl
  · by_cases e : i < n
    · dsimp only
      rw [if_neg (by omega), if_neg (by omega)]
      exact ⟨(hRw i e).1, h0, (hRw i e).2.2.grownR h2 hrow⟩
    · obtain rfl : i = n := by omega
      dsimp only
      rw [if_pos rfl, if_pos rfl]
      exact ⟨by omega, h0, (hx.mono hbr).grownR h2 hrow⟩
  · by_cases e1 : i = n <;> by_cases e2 : j = n
    · omega
    · dsimp only at e
      rw [if_pos e1, if_neg e2] at e
      have := hG j (by omega); omega
    · dsimp only at e
      rw [if_neg e1, if_pos e2] at e
      have := hG i (by omega); omega
    · dsimp only at e
      rw [if_neg e1, if_neg e2] at e
      exact hInj i j (by omega) (by omega) e
  · have := hlt k e.symm
    omega
  · have hsz := h2.size
    by_cases e : i = n
    · rw [if_pos e]; have := hrb.lt; omega
    · rw [if_neg e]; have := (hRB i (by omega)).lt; omega
theorem fill_oneB (b : Bool) (p : Option Addr) (m n : Nat) (z : Array Value) : Instr.fill (fun i => some (i * 2, 2)) ((Array.range (1 * 2)).map (z[· % z.size]!)) [(0, .agg #[.bool b, .slice p m n])] = some #[.bool b, .slice p m n] := by
  kernel_rfl
theorem bsB_P {ops : Array Oper} {rest : List Oper} {Q : Exit → Act → World → Prop} {a : Act} {w : World} {d : Option Tmp} {s : Tmp} {ty : TypeId} {pos : String} {af : Array Edge} {b : Bool} {p : Option Addr} {m n : Nat} (hs : a.eval (.tmp s) = .agg #[.bool b, .slice p m n])
    (h : wpList Tryz.prog ops Q rest (a.put d (.slice (some ⟨w.heap.size, 0, none⟩) 1 1)) (w.alloc (.cells #[.bool b, .slice p m n] 46))) :
    wpList Tryz.prog ops Q ({ dst := d, op := .buildSlice 49 1 #[(0, .tmp s)], type := ty, pos := pos, after := af, guard := none } :: rest) a w := by
  obtain ⟨i0, hi0, he⟩ := Option.map_eq_some_iff.1 infoBs
  simp only [Prod.mk.injEq] at he
  refine wpList_buildSlice rfl 49 46 1 _ rfl #[.bool b, .slice p m n] i0 _ undBs hi0 he.1 (by rw [he.2.1]; decide) (by rw [he.2.1]; decide) ?_ h
  simp only [List.map_toArray, List.map_cons, List.map_nil, hs, he.2.1]
  exact fill_oneB _ _ _ _ _
theorem bigAt_range0 {w : World} {g : Nat} {b : Bool} {p : Option Addr} {m n : Nat} (hB : Blk w g 46 #[.bool b, .slice p m n]) : w.rangeAt g 0 [.bool b, .slice p m n] := by
  have h := bigAt_range hB (i := 0) (b := b) (p := p) (n := m) (c := n) rfl rfl
  rwa [Nat.zero_mul] at h
theorem run_ldBR {o : Oper} {ev : Operand → Value} {x : Operand} {w : World} {g : Nat} {C : Array Value} (ho : o.op = .load 46 x) (hx : ev x = .pointer (some ⟨g, 0, none⟩)) (hC : Blk w g 46 C) (h2 : C.size = 2) : (execOp ev o).run Tryz.prog w = .ok (.value (.agg C)) w := by
  obtain ⟨fs, hu⟩ := undB
  unfold execOp
  simp only [ho, hx, Instr.loadAt, Instr.sureAddr, Sem.run_bind, Sem.run_pure, Result.andThen_ok, run_loadVar_row w g _ 46 C (0, 0) _ hC hu rfl (by rw [infoB, h2])]
theorem mk_succ (m : Nat) (f : Nat → Int) : mk (m + 1) f = mk m f ++ [f m] := by unfold mk; rw [List.range_succ, List.map_append]; rfl
def RE (n : Nat) (l : List Int) (s k : Int) (i j : Nat) : Int := s * ent n l i j + if i = j then k else 0
def RowsPost (w : World) (n : Nat) (V : Nat → Nat → Int) (r : Ending) (w' : World) : Prop := ∃ z b G, r = .returned z ∧ Up w w' ∧ w.heap.size ≤ b ∧ b ≤ w'.heap.size ∧ OwnM w' b z n n G V
def RowsG (w : World) (n : Nat) (V : Nat → Nat → Int) (r : Ending) (w' : World) : Prop := ∃ z b G, r = .returned z ∧ Up w w' ∧ w.heap.size ≤ b ∧ b ≤ w'.heap.size ∧ OwnG w' b z n (fun _ => n) G V
set_option maxHeartbeats 16000000 in
theorem rowsG_any {v : Value} {n : Nat} {l : List Int} {w : World} (hm : Sm w v n l) (hR : rt n l = true) {s k : Int} (hs : I64 s) (hk : I64 k) :
    Calls Tryz.prog 51 #[v, .int .i64 s, .int .i64 k] w (RowsG w n (RE n l s k)) := by
  have n8 : n ≤ 8 := by have := (rt_spec hR).2.1; omega
  have HAT := hid (fun (i j : Nat) (hi : i < n) (hj : j < n) w' (hu : Up w w') => rat_ent (i : Int) (j : Int) (hm.up hu) hR (show rng (n : Int) i j = true from decide_eq_true (by omega)))
  have HEB := hid (fun (i j : Nat) (hi : i < n) (hj : j < n) => show I64 (ent n l i j) from by have := ent_fit hR hi hj; unfold I64; omega)
  have HOs := hid (fun w => of_big s hs.1 hs.2 w)
  have HOk := hid (fun w => of_big k hk.1 hk.2 w)
  have hsb := i64_bp hs
  have hkb := i64_bp hk
  have HSB := hid hsb
  have HKB := hid hkb
  obtain ⟨s0, rfl, ⟨p, cap, rfl, -, -⟩, -, -, -⟩ := hm
  obtain ⟨W0, hW0⟩ : ∃ W0, w.alloc (.cells #[.int .i64 (n : Int), .slice p l.length cap] 24) = W0 := ⟨_, rfl⟩
  have hB : Blk W0 w.heap.size 24 #[.int .i64 (n : Int), .slice p l.length cap] := by rw [← hW0]; exact Blk.new _ _ rfl
  have hU : Up w W0 := by rw [← hW0]; exact Up.alloc _ _
  have HRE := hid (fun i j => show RE n l s k i j = s * ent n l i j + (if i = j then k else 0) from rfl)
  have hc0 := hB.cell 0 rfl
  obtain ⟨V, hV⟩ : ∃ V, RE n l s k = V := ⟨_, rfl⟩
  rw [hV] at HRE ⊢
  clear hV hs hk hsb hkb hR
  unfold RowsG
  go_enter Tryz.func51, Tryz.ntmps51
  go_wp2_with fail
  obtain ⟨wS, hwS⟩ : ∃ y, W0 = y := ⟨_, rfl⟩
  rw [hwS] at hB hU hc0 ⊢
  clear hW0 hwS hc0
  go_loopg [7, 8] n (fun g tr ti wr => ∃ (i : Nat) (G : Nat → Nat), i ≤ n ∧ n - i ≤ g ∧ ti = .int .i64 (i : Nat) ∧ OwnG wr wS.heap.size tr i (fun _ => n) G V ∧ (∀ q, q < i → G q < wr.heap.size) ∧ Up wS wr)
  case atStart => exact ⟨0, fun _ => 0, Nat.zero_le _, by omega, rfl, OwnG.nil _ _ _ _ _, fun _ hq => absurd hq (Nat.not_lt_zero _), Up.refl _⟩
  case round =>
    obtain ⟨i, G, hi, hig, rfl, hO, hGs, hu⟩ := hrel
    have HGs := hid hGs
    have hc0 := (hB.up hu).cell 0 rfl
    clear hGs
    by_cases hlt : i < n
    · have e1 : IntKind.i64.wrap ((i : Int) + 1) = (i : Int) + 1 := IntWalk.i64_in _ (by omega)
      go_wp2_with fail
      obtain ⟨wO, hwO⟩ : ∃ y, wr = y := ⟨_, rfl⟩
      rw [hwO] at hO hu hc0 HGs ⊢
      clear hwO
      go_loopg [9, 10] n (fun g te tj wr => ∃ j : Nat, j ≤ n ∧ n - j ≤ g ∧ tj = .int .i64 (j : Nat) ∧ OwnB wr wO.heap.size te (mk j (V i)) ∧ Up wO wr)
      case atStart => exact ⟨0, Nat.zero_le _, by omega, rfl, OwnB.nil _ _, Up.refl _⟩
      case round =>
        clear hc0
        obtain ⟨j, hj, hjg, rfl, hE, huj⟩ := hrel
        have hBj := hB.up (hu.trans huj)
        have hc0 := hBj.cell 0 rfl
        by_cases hjlt : j < n
        · have e2 : IntKind.i64.wrap ((j : Int) + 1) = (j : Int) + 1 := IntWalk.i64_in _ (by omega)
          have HA := hid (fun w' (hu' : Up wr w') => HAT.out i j hlt hjlt w' (hU.trans ((hu.trans huj).trans hu')))
          have hei := HEB.out i j hlt hjlt
          have hpb : (s * ent n l i j).natAbs < bp 2 := mul_bp1 HSB.out (i64_bp hei)
          have HO1 := hid (fun w => of_big (ent n l i j) hei.1 hei.2 w)
          have HM := hid (fun (va vb : Value) (w : World) (ha : Big w va s) (hb : Big w vb (ent n l i j)) => mul_big ha hb (nl_bp (k := 1) (by omega) HSB.out) (nl_bp (k := 1) (by omega) (i64_bp hei)))
          have HAd := hid (fun (va vb : Value) (w : World) (ha : Big w va (s * ent n l i j)) (hb : Big w vb k) => add_big ha hb (nl_bp (k := 2) (by omega) hpb) (nl_bp (k := 1) (by omega) HKB.out))
          have HV := hid (HRE.out i j)
          have HT9 := hid (mk_succ j (V i))
          have HTk : Hid ((mk j (V i)).length < 1000000) := hid (by rw [mk_len]; omega)
          have hszj := huj.size
          clear hei hpb
          obtain ⟨eij, heij⟩ : ∃ y, ent n l i j = y := ⟨_, rfl⟩
          rw [heij] at HA HO1 HM HAd HV
          clear heij
          obtain ⟨pr, hpr⟩ : ∃ y, s * eij = y := ⟨_, rfl⟩
          rw [hpr] at HM HAd HV
          clear hpr
          go_wp2_with fail
          refine wp_region_sp (n := 48) 9 [24, 25, 26, 27, 28, 29, 30, 31, 11] [SP.is (.int .i64 s), SP.of (fun v w1 => Big w1 v s) (fun _ _ _ h hu => h.up hu), SP.is (.agg #[.int .i64 (n : Nat), .slice p l.length cap]), SP.is (.int .i64 (i : Nat)), SP.is (.int .i64 (j : Nat)), SP.is (.int .i64 eij), SP.of (fun v w1 => Big w1 v eij) (fun _ _ _ h hu => h.up hu), SP.of (fun v w1 => Big w1 v pr) (fun _ _ _ h hu => h.up hu), SP.of (fun v w1 => ∃ b, v = .pointer (some ⟨b, 0, none⟩) ∧ wr.heap.size ≤ b ∧ Blk w1 b 46 #[.bool false, .slice none 0 0]) (fun _ _ _ h hu => h.imp fun _ k => ⟨k.1, k.2.1, k.2.2.up hu⟩), SP.any] (fun wq => Blk wq w.heap.size 24 #[.int .i64 (n : Int), .slice p l.length cap] ∧ Up wr wq ∧ Below w.heap.size w wq) (by kernel_rfl) (by rfl) (by kernel_rfl) (by kernel_rfl) (fun _ _ h hu => ⟨(h.1).up hu, (h.2.1).trans hu, below_up (h.2.2) hu⟩) ⟨(by first | assumption | exact gBlk), (by first | exact Up.refl _ | assumption), gUp⟩ (fun ev w9 hS9 i o hne hi hev => ?_) (fun gR wE hq hSE huE => ?_)
          · have ⟨hS1, hS2, hSB⟩ := hS9
            have hcC := hev.const
            have hcF := hev.func
            have hcG := hev.global
            rcases i with _ | _ | _ | _ | _ | _ | _ | _ | _ | _ | i
            · obtain rfl := Option.some.inj (show some _ = some o from hi)
              have e1 := hev.other 1 (by kernel_rfl)
              simp [Act.eval] at e1
              exact leavesR_value (u := .int .i64 s) (by first | (go_simp; done) | (go_simp; exact rfl)) rfl
            · obtain rfl := Option.some.inj (show some _ = some o from hi)
              have e24 : ev (.tmp 24) = (.int .i64 s) := hev.dep 0 24 (by kernel_rfl)
              refine leavesR_call ?_ (HOs.out _)
              go_simp
            · obtain rfl := Option.some.inj (show some _ = some o from hi)
              have e3 := hev.other 3 (by kernel_rfl)
              simp [Act.eval] at e3
              exact leavesR_value (run_ldME rfl (by go_simp) hS1 rfl) rfl
            · obtain rfl := Option.some.inj (show some _ = some o from hi)
              have e8 := hev.other 8 (by kernel_rfl)
              simp [Act.eval] at e8
              exact leavesR_value (u := .int .i64 (i : Nat)) (by first | (go_simp; done) | (go_simp; exact rfl)) rfl
            · obtain rfl := Option.some.inj (show some _ = some o from hi)
              have e10 := hev.other 10 (by kernel_rfl)
              simp [Act.eval] at e10
              exact leavesR_value (u := .int .i64 (j : Nat)) (by first | (go_simp; done) | (go_simp; exact rfl)) rfl
            · obtain rfl := Option.some.inj (show some _ = some o from hi)
              have e26 : ev (.tmp 26) = (.agg #[.int .i64 (n : Nat), .slice p l.length cap]) := hev.dep 2 26 (by kernel_rfl)
              have e27 : ev (.tmp 27) = (.int .i64 (i : Nat)) := hev.dep 3 27 (by kernel_rfl)
              have e28 : ev (.tmp 28) = (.int .i64 (j : Nat)) := hev.dep 4 28 (by kernel_rfl)
              refine leavesR_call ?_ ((HA.out _ hS2).mono fun _ _ h => ⟨h.2, _, h.1, rfl⟩)
              go_simp
            · obtain rfl := Option.some.inj (show some _ = some o from hi)
              have e29 : ev (.tmp 29) = (.int .i64 eij) := hev.dep 5 29 (by kernel_rfl)
              refine leavesR_call ?_ (HO1.out _)
              go_simp
            · obtain rfl := Option.some.inj (show some _ = some o from hi)
              have e25 : (fun v w1 => Big w1 v s) (ev (.tmp 25)) w9 := hev.dep 1 25 (by kernel_rfl)
              dsimp only at e25
              obtain ⟨v25, hv25⟩ : ∃ v, ev (.tmp 25) = v := ⟨_, rfl⟩
              rw [hv25] at e25
              have e30 : (fun v w1 => Big w1 v eij) (ev (.tmp 30)) w9 := hev.dep 6 30 (by kernel_rfl)
              dsimp only at e30
              obtain ⟨v30, hv30⟩ : ∃ v, ev (.tmp 30) = v := ⟨_, rfl⟩
              rw [hv30] at e30
              refine leavesR_call ?_ (HM.out _ _ _ e25 e30)
              go_simp
            · obtain rfl := Option.some.inj (show some _ = some o from hi)
              exact leavesR_up (u := .pointer (some ⟨w9.heap.size, 0, none⟩)) (w' := w9.alloc (.cells #[.bool false, .slice none 0 0] 46)) (by go_simp) (Up.alloc _ _) ⟨_, rfl, hS2.size, Blk.new _ _ rfl⟩
            · exact absurd rfl hne
            · exact absurd (show i + 10 < 10 from (Array.getElem?_eq_some_iff.1 hi).1) (by omega)
          have ⟨hS1, hS2, hSB⟩ := hSE
          have q0 : gR 24 = (.int .i64 s) := hq 0 24 (by decide) (by kernel_rfl)
          have q1 : (fun v w1 => Big w1 v s) (gR 25) wE := hq 1 25 (by decide) (by kernel_rfl)
          dsimp only at q1
          obtain ⟨v25, hv25⟩ : ∃ v, gR 25 = v := ⟨_, rfl⟩
          rw [hv25] at q1
          have q2 : gR 26 = (.agg #[.int .i64 (n : Nat), .slice p l.length cap]) := hq 2 26 (by decide) (by kernel_rfl)
          have q3 : gR 27 = (.int .i64 (i : Nat)) := hq 3 27 (by decide) (by kernel_rfl)
          have q4 : gR 28 = (.int .i64 (j : Nat)) := hq 4 28 (by decide) (by kernel_rfl)
          have q5 : gR 29 = (.int .i64 eij) := hq 5 29 (by decide) (by kernel_rfl)
          have q6 : (fun v w1 => Big w1 v eij) (gR 30) wE := hq 6 30 (by decide) (by kernel_rfl)
          dsimp only at q6
          obtain ⟨v30, hv30⟩ : ∃ v, gR 30 = v := ⟨_, rfl⟩
          rw [hv30] at q6
          have q7 : (fun v w1 => Big w1 v pr) (gR 31) wE := hq 7 31 (by decide) (by kernel_rfl)
          dsimp only at q7
          obtain ⟨v31, hv31⟩ : ∃ v, gR 31 = v := ⟨_, rfl⟩
          rw [hv31] at q7
          have q8 : (fun v w1 => ∃ b, v = .pointer (some ⟨b, 0, none⟩) ∧ wr.heap.size ≤ b ∧ Blk w1 b 46 #[.bool false, .slice none 0 0]) (gR 11) wE := hq 8 11 (by decide) (by kernel_rfl)
          dsimp only at q8
          obtain ⟨v11, hv11⟩ : ∃ v, gR 11 = v := ⟨_, rfl⟩
          rw [hv11] at q8
          refine ⟨fun h => absurd h (by decide), fun o ho => ?_⟩
          obtain rfl := Option.some.inj (show some _ = some o from ho)
          simp only [putL, List.map_cons, List.map_nil, q0, hv25, q2, q3, q4, q5, hv30, hv31, hv11, Act.put, pu1, pu2, pu3]
          clear hq hSE q0 q2 q3 q4 q5
          obtain ⟨b7, rfl, hb7, hBz⟩ := q8
          obtain ⟨bb, ba, bn, bc, rfl⟩ := q7.shape
          refine wp_stB rfl rfl rfl rfl hBz rfl rfl (one2 _ _ _ _) ?_
          have gB := hBz.setRow #[.bool bb, .slice ba bn bc]
          have gG := big_set (D := #[.bool bb, .slice ba bn bc]) hBz q7
          have gU : Up wr _ := below_setRow hS2 hb7 #[.bool bb, .slice ba bn bc]
          obtain ⟨wK, hwK⟩ : ∃ wK, wE.setRow b7 #[.bool bb, .slice ba bn bc] = wK := ⟨_, rfl⟩
          rw [hwK] at gB gG gU ⊢
          clear hwK hBz q1 q6 q7 hS1 hS2 hSB huE hc0 hBj
          have gs := gU.size
          by_cases hij : i = j
          · have HV2 : Hid (V i j = pr + k) := hid (by rw [HV.out, if_pos hij])
            subst hij
            go_wp2_with fail
            refine wp_region_sp (n := 48) 4 [35, 36, 37, 38] [SP.is (.agg #[.bool bb, .slice ba bn bc]), SP.is (.int .i64 k), SP.of (fun v w1 => Big w1 v k) (fun _ _ _ h hu => h.up hu), SP.of (fun v w1 => Big w1 v (pr + k)) (fun _ _ _ h hu => h.up hu), SP.any] (fun wq => Blk wq b7 46 #[.bool bb, .slice ba bn bc] ∧ Up wK wq ∧ Below w.heap.size w wq) (by kernel_rfl) (by rfl) (by kernel_rfl) (by kernel_rfl) (fun _ _ h hu => ⟨(h.1).up hu, (h.2.1).trans hu, below_up (h.2.2) hu⟩) ⟨(by first | assumption | exact gBlk), (by first | exact Up.refl _ | assumption), gUp⟩ (fun ev w9 hS9 i o hne hi hev => ?_) (fun gR wE hq hSE huE => ?_)
            · have ⟨hS1, hS2, hSB⟩ := hS9
              have hcC := hev.const
              have hcF := hev.func
              have hcG := hev.global
              rcases i with _ | _ | _ | _ | _ | i
              · obtain rfl := Option.some.inj (show some _ = some o from hi)
                have e11 := hev.other 11 (by kernel_rfl)
                simp [Act.eval] at e11
                exact leavesR_value (run_ldBR rfl (by go_simp) hS1 rfl) rfl
              · obtain rfl := Option.some.inj (show some _ = some o from hi)
                have e2 := hev.other 2 (by kernel_rfl)
                simp [Act.eval] at e2
                exact leavesR_value (u := .int .i64 k) (by first | (go_simp; done) | (go_simp; exact rfl)) rfl
              · obtain rfl := Option.some.inj (show some _ = some o from hi)
                have e36 : ev (.tmp 36) = (.int .i64 k) := hev.dep 1 36 (by kernel_rfl)
                refine leavesR_call ?_ (HOk.out _)
                go_simp
              · obtain rfl := Option.some.inj (show some _ = some o from hi)
                have e35 : ev (.tmp 35) = (.agg #[.bool bb, .slice ba bn bc]) := hev.dep 0 35 (by kernel_rfl)
                have e37 : (fun v w1 => Big w1 v k) (ev (.tmp 37)) w9 := hev.dep 2 37 (by kernel_rfl)
                dsimp only at e37
                obtain ⟨v37, hv37⟩ : ∃ v, ev (.tmp 37) = v := ⟨_, rfl⟩
                rw [hv37] at e37
                refine leavesR_call ?_ (HAd.out _ _ _ (e35 ▸ gG.up hS2) e37)
                go_simp
              · exact absurd rfl hne
              · exact absurd (show i + 5 < 5 from (Array.getElem?_eq_some_iff.1 hi).1) (by omega)
            have ⟨hS1, hS2, hSB⟩ := hSE
            have q0 : gR 35 = (.agg #[.bool bb, .slice ba bn bc]) := hq 0 35 (by decide) (by kernel_rfl)
            have q1 : gR 36 = (.int .i64 k) := hq 1 36 (by decide) (by kernel_rfl)
            have q2 : (fun v w1 => Big w1 v k) (gR 37) wE := hq 2 37 (by decide) (by kernel_rfl)
            dsimp only at q2
            obtain ⟨v37, hv37⟩ : ∃ v, gR 37 = v := ⟨_, rfl⟩
            rw [hv37] at q2
            have q3 : (fun v w1 => Big w1 v (pr + k)) (gR 38) wE := hq 3 38 (by decide) (by kernel_rfl)
            dsimp only at q3
            obtain ⟨v38, hv38⟩ : ∃ v, gR 38 = v := ⟨_, rfl⟩
            rw [hv38] at q3
            refine ⟨fun h => absurd h (by decide), fun o ho => ?_⟩
            obtain rfl := Option.some.inj (show some _ = some o from ho)
            simp only [putL, List.map_cons, List.map_nil, q0, q1, hv37, hv38, Act.put, pu1, pu2, pu3]
            clear hq hSE q0 q1
            obtain ⟨cb, ca, cn, cc, rfl⟩ := q3.shape
            refine wp_stB rfl rfl rfl rfl hS1 rfl rfl (one2 _ _ _ _) ?_
            have kB := hS1.setRow #[.bool cb, .slice ca cn cc]
            have kG := big_set (D := #[.bool cb, .slice ca cn cc]) hS1 q3
            have kU : Up wr _ := below_setRow (gU.trans hS2) hb7 #[.bool cb, .slice ca cn cc]
            obtain ⟨wL, hwL⟩ : ∃ wL, wE.setRow b7 #[.bool cb, .slice ca cn cc] = wL := ⟨_, rfl⟩
            rw [hwL] at kB kG kU ⊢
            clear hwL q2 q3 hS1 hS2 hSB huE gB gG
            have ks := kU.size
            go_wp2_with (first
              | ((with_reducible apply ldB_P); exact rfl; exact rfl; exact kB; exact rfl)
              | ((with_reducible apply bsB_P); exact rfl)
              | ((with_reducible apply appB (l := mk i (V i)) (z := pr + k)); exact rfl; exact rfl; exact OwnB.up (kU.trans (Up.alloc _ _)) hE; exact bigAt_range0 (Blk.new _ _ rfl); exact kG.up (Up.alloc _ _); (focus (simp; omega)); exact HTk.out; rintro v6 w6 hO6 - hb6))
            go_roundg (n - (i + 1))
            case measure => omega
            case rel => exact ⟨i + 1, hjlt, Nat.le_refl _, rfl, by rw [HT9.out, HV2.out]; exact hO6, Below.trans (huj.trans (kU.trans (Up.alloc _ _))) hb6⟩
          · have HV2 : Hid (V i j = pr) := hid (by rw [HV.out, if_neg hij, Int.add_zero])
            go_wp2_with (first
              | ((with_reducible apply ldB_P); exact rfl; exact rfl; exact gB; exact rfl)
              | ((with_reducible apply bsB_P); exact rfl)
              | ((with_reducible apply appB (l := mk j (V i)) (z := pr)); exact rfl; exact rfl; exact OwnB.up (gU.trans (Up.alloc _ _)) hE; exact bigAt_range0 (Blk.new _ _ rfl); exact gG.up (Up.alloc _ _); (focus (simp; omega)); exact HTk.out; rintro v6 w6 hO6 - hb6))
            go_roundg (n - (j + 1))
            case measure => omega
            case rel => exact ⟨j + 1, hjlt, Nat.le_refl _, rfl, by rw [HT9.out, HV2.out]; exact hO6, Below.trans (huj.trans (gU.trans (Up.alloc _ _))) hb6⟩
        · obtain rfl : j = n := by omega
          obtain ⟨pe, ce, rfl⟩ := hE.slice
          obtain ⟨ge, cge, Ce, hve, hbe, -⟩ := hE.open (by rw [mk_len]; omega)
          rw [mk_len] at hve
          injection hve with x1 x2 x3
          subst x1 x3
          have HEo := hid (show OwnB wr wO.heap.size (.slice (some ⟨ge, 0, none⟩) j ce) (mk j (V i)) from by have h := hE; rw [mk_len] at h; exact h)
          have hszj := huj.size
          have hszu := hu.size
          rw [mk_len]
          go_wp2_with (first
            | ((with_reducible apply appG (b := wO.heap.size) (r := ge) (m := j) (n := i) (V := V) (G := G)); exact rfl; exact rfl; exact OwnG.up (huj.trans (Up.alloc _ _)) hO; exact (Blk.new _ _ rfl).cell 0 rfl; exact OwnB.up (Up.alloc _ _) HEo.out; (focus omega); exact HGs.out; exact hszu; (focus (simp; omega)); (focus omega); rintro v6 w6 hO6 hb6 hG6))
          go_roundg (j - (i + 1))
          case measure => omega
          case rel => exact ⟨i + 1, _, hlt, Nat.le_refl _, rfl, hO6, hG6, Below.trans ((hu.trans huj).trans (Up.alloc _ _)) hb6⟩
    · obtain rfl : i = n := by omega
      go_wp2_with fail
      go_ret
      exact ⟨_, _, G, rfl, hU.trans hu, hU.size, hu.size, hO⟩
theorem rows_any {v : Value} {n : Nat} {l : List Int} {w : World} (hm : Sm w v n l) (hR : rt n l = true) {s k : Int} (hs : I64 s) (hk : I64 k) :
    Calls Tryz.prog 51 #[v, .int .i64 s, .int .i64 k] w (RowsPost w n (RE n l s k)) :=
  (rowsG_any hm hR hs hk).mono fun _ _ ⟨z, b, G, h1, h2, h3, h4, h5⟩ => ⟨z, b, G, h1, h2, h3, h4, h5.m fun _ _ => rfl⟩
theorem over_step {x Q y r b L X q r' : Nat} (h : x = Q * y + r * (b * 18446744073709551616) + (L + X * b)) (hq : y * q + r' = 18446744073709551616 * r + X) : x = (Q + q * b) * y + r' * b + L := by
  have h2 : (y * q + r') * b = (18446744073709551616 * r + X) * b := by rw [hq]
  have h3 : (Q + q * b) * y + r' * b = Q * y + (y * q + r') * b := by grind
  have h4 : (18446744073709551616 * r + X) * b = r * (b * 18446744073709551616) + X * b := by grind
  rw [h, h3, h2, h4]
  omega
set_option maxHeartbeats 2000000 in
theorem over_am {x y : Nat} {va vb : Value} {w : World} (ha : Am w va x) (hb : Am w vb y) (hx : nl x < 100000) (hy : nl y = 1) :
    Calls Tryz.prog 119 #[va, vb] w fun e w' => Up w w' ∧ ∃ a n c b m d, e = .returned (.tuple #[.slice a n c, .slice b m d]) ∧ Am w' (.slice a n c) (x / y) ∧ Am w' (.slice b m d) (x % y) := by
  obtain ⟨a, ca, rfl, hca1, hca0⟩ := ha.open
  obtain ⟨b, cb, rfl, hcb1, hcb0⟩ := hb.open
  obtain ⟨hy64, hy0, hyl⟩ := nl_one hy
  have HC := hid (fun w' (h : Up w w') => cmp_am (ha.up h) (hb.up h) (by omega) (by omega))
  by_cases hlt : x < y
  · have hA := hid ha
    have e1 : x / y = 0 := Nat.div_eq_of_lt hlt
    have e2 : x % y = x := Nat.mod_eq_of_lt hlt
    have d1 : decide (ordZ x y < 0) = true := by unfold ordZ; rw [if_pos hlt]; rfl
    rw [e1, e2]
    rw [hy] at HC hcb1 ⊢
    clear ha hb e1 e2 hca0 hcb0 hy
    go_enter Tryz.func119, Tryz.ntmps119
    go_wp2_with (first | (go_at_call 86; (with_reducible refine (HC.out _ gUp).mono ?_); rintro e wC ⟨rfl, huC⟩))
    go_ret2
    exact ⟨gUp, _, _, _, _, _, _, rfl, am_nil _, hA.out.up huC⟩
  · have d1 : decide (ordZ x y < 0) = false := by
      unfold ordZ
      rw [if_neg hlt]
      split <;> simp
    obtain ⟨bb, rfl, hbb, hcb⟩ := hcb0 0 (by omega)
    rw [hyl] at hcb
    rw [hy] at HC hcb1 ⊢
    have hsx := sum_nl x
    have hn0 : 0 < nl x := nl_pos (by omega)
    have HSX := hid hsx
    have HXA := hid (nl_le (x := x) (k := nl x) (lt_bp_nl x))
    clear ha hb hsx hcb0 HXA hy
    generalize nl x = n at *
    go_enter Tryz.func119, Tryz.ntmps119
    go_wp2_with (first | (go_at_call 86; (with_reducible refine (HC.out _ gUp).mono ?_); rintro e wC ⟨rfl, huC⟩) | ((with_reducible apply mkP (n := n)); exact rfl; (first | rfl | omega); omega))
    have hsC := huC.size
    go_loopw [8, 9] (fun tr ti wr => ∃ (m r : Nat) (S : Nat → Nat), m ≤ n ∧ ti = .int .i64 ((m : Int) - 1) ∧ tr = .int .u64 (r : Nat) ∧ r < y ∧ (∀ j, j < n → S j < 18446744073709551616) ∧ (∀ j, j < m → S j = 0) ∧ x = sumL S n * y + r * bp m + sumL (limb x) m ∧
        Row wr wC.heap.size 31 n S ∧ Below w.heap.size w wr)
      (fun _ ti _ => (intOf ti + 1).toNat)
    case atStart => exact ⟨n, 0, fun _ => 0, Nat.le_refl _, rfl, rfl, hy0, fun _ _ => by simp, fun _ _ => rfl, by rw [sumL_zeros, HSX.out]; omega, gRow, gUp⟩
    case round =>
      obtain ⟨m, r, S, hm, rfl, rfl, hr, hSb, hz, hsum, hS, hB⟩ := hrel
      have HSb := hid hSb
      have Hz := hid hz
      have Hsum := hid hsum
      clear hSb hz hsum
      by_cases hlt : 0 < m
      · obtain ⟨k, rfl⟩ : ∃ k, m = k + 1 := ⟨m - 1, by omega⟩
        have e : (((k + 1 : Nat) : Int) - 1) = (k : Int) := by omega
        rw [e]
        clear e
        obtain ⟨ba, rfl, hba, hca⟩ := hca0 k (by omega)
        have hcx := hca _ hB
        have hcy := hcb _ hB
        have hlx := limb_lt x k
        have hkn : k < n := by omega
        obtain ⟨q, eq⟩ : ∃ q, q = (18446744073709551616 * r + limb x k) / y := ⟨_, rfl⟩
        obtain ⟨r', er⟩ : ∃ r', r' = (18446744073709551616 * r + limb x k) % y := ⟨_, rfl⟩
        have hD := div64_any r (limb x k) y hy64 hlx hr
        rw [← eq, ← er] at hD
        have HD := hid hD
        have hq : q < 18446744073709551616 := by rw [eq]; exact short_q hr hlx
        have hr' : r' < y := by rw [er]; exact Nat.mod_lt _ hy0
        have HQR : Hid (y * q + r' = 18446744073709551616 * r + limb x k) := hid (by rw [eq, er]; exact Nat.div_add_mod _ _)
        clear eq er hD
        go_wp2
        refine opU (S := (fun wq => Row wq wC.heap.size 31 n S ∧ wq.cell? ⟨ba, k, none⟩ = some (.int .u64 (limb x k : Nat)) ∧ wq.cell? ⟨bb, 0, none⟩ = some (.int .u64 (y : Nat)) ∧ Below w.heap.size w wq)) (req := (fun j => j != 15)) (fun _ _ h hu => ⟨(h.1).up hu, hu.cell (h.2.1), hu.cell (h.2.2.1), below_up (h.2.2.2) hu⟩) ⟨gRow, (by first | assumption | (apply Blk.cell; exact gBlk; exact rfl)), (by first | assumption | (apply Blk.cell; exact gBlk; exact rfl)), gUp⟩ (fun wS hSS hSu => ?_)
        have ⟨hS1, hS2, hS3, hSB⟩ := hSS
        clear hcx hcy hS hB
        refine tkP 0 (some 44) hSu ?_
        refine tkP 1 (some 45) hSu ?_
        refine tkP 2 (some 46) hSu ?_
        refine tkP 3 (some 47) hSu ?_
        refine tkP 4 (some 48) hSu ?_
        refine tkP 5 (some 49) hSu ?_
        refine tkT 6 (some 50) rfl hSu hSS ?_ (hy := fun w' hSw => by ((try dsimp only at hSw); (try obtain ⟨_, _, _, _⟩ := hSw); go_simp; (try exact rfl)))
        refine tkP 7 (some 51) hSu ?_
        refine tkP 8 (some 52) hSu ?_
        refine tkT 9 (some 53) rfl hSu hSS ?_ (hy := fun w' hSw => by ((try dsimp only at hSw); (try obtain ⟨_, _, _, _⟩ := hSw); go_simp; (try exact rfl)))
        refine tkC 10 (some 54) rfl hSu hSS ?_ (hy := fun w' hSw => (HD.out _))
        refine tkP 11 (some 43) hSu ?_
        refine tkP 12 (some 55) hSu ?_
        refine tkP 13 (some 56) hSu ?_
        refine tkP 14 (some 57) hSu ?_
        refine wpAnyU_one (i := 15) rfl (by kernel_rfl) (by rfl) fun w1 hw1 => ?_
        have hcW := (hS1.up hw1).cell k (by omega)
        have hfW := (hS1.up hw1).frozen k
        go_simp
        clear hcW hfW
        refine tkP 16 (some 8) hSu ?_
        refine wpAnyU_done (by kernel_rfl) (fun wF huE => ?_) _
        have gS := ((hS1.up hw1).set k q).up huE
        have gB := below_up ((below_up hSB hw1).setCell (p := ⟨wC.heap.size, k, none⟩) (show w.heap.size ≤ wC.heap.size by omega) (.int .u64 (q : Nat))) huE
        clear hS1 hS2 hS3 hSB hSS hw1 huE
        go_wp2
        go_roundw
        case rel =>
          refine ⟨k, r', upd S k q, by omega, by go_num, rfl, hr', upd_lt HSb.out hq, fun j hj => by rw [upd_other _ _ _ (by omega)]; exact Hz.out j (by omega), ?_, gS, gB⟩
          have h1 := sumL_upd S q (show k < n by omega)
          rw [Hz.out k (by omega), Nat.zero_mul, Nat.add_zero] at h1
          have h2 := Hsum.out
          rw [bp_succ, sumL_succ (limb x) k] at h2
          rw [h1]
          exact over_step h2 HQR.out
        case measure => simp [intOf] <;> omega
      · obtain rfl : m = 0 := by omega
        have hfin := Hsum.out
        rw [bp_zero, sumL_zero, Nat.mul_one, Nat.add_zero] at hfin
        have e1 : x / y = sumL S n := by rw [hfin, Nat.mul_comm, Nat.mul_add_div hy0, Nat.div_eq_of_lt hr, Nat.add_zero]
        have e2 : x % y = r := by rw [hfin, Nat.mul_comm, Nat.mul_add_mod, Nat.mod_eq_of_lt hr]
        have ht := fun w' (h : Row w' wC.heap.size 31 n S) => trim_row wC.heap.size n n n S w' h (Nat.le_refl _) (Nat.le_refl _) (by omega)
        have hres := am_row (c := n) hS (Nat.le_refl _) (Nat.le_refl _) HSb.out
        rw [← e1] at hres
        have hr64 : ∀ i, i < 1 → (fun _ => r) i < 18446744073709551616 := fun _ _ => by show r < 18446744073709551616; omega
        have eR : sumL (fun _ => r) 1 = r := by rw [sumL_succ, sumL_zero, bp_zero]; omega
        have ht2 := fun w' b (h : Row w' b 31 1 (fun _ => r)) => trim_row b 1 1 1 (fun _ => r) w' h (Nat.le_refl _) (Nat.le_refl _) (by decide)
        have hres2 : ∀ w' b, Row w' b 31 1 (fun _ => r) → Am w' (.slice (some ⟨b, 0, none⟩) (lenL (fun _ => r) 1) 1) (x % y) := fun w' b h => by
          have := am_row (c := 1) h (Nat.le_refl _) (Nat.le_refl _) hr64
          rw [eR] at this
          rw [e2]
          exact this
        have HT := hid ht
        have HT2 := hid ht2
        have HA := hid hres
        have HA2 := hid hres2
        clear ht hres hfin e1 e2 HSb Hsum Hz ht2 hres2 hr64 eR
        go_wp2_with (first | (go_at_call 74; (first | ((with_reducible refine (HT.out _ gRow).mono ?_); rintro e wT ⟨rfl, huT⟩) | ((with_reducible refine (HT2.out _ _ (row_one (by simp))).mono ?_); rintro e wV ⟨rfl, huV⟩))))
        go_ret2
        exact ⟨below_up (bl_alloc (below_up hB huT).size (below_up hB huT)) huV, _, _, _, _, _, _, rfl, ((HA.out.up huT).up (Up.alloc _ _)).up huV, (HA2.out _ _ (row_one rfl)).up huV⟩
theorem resBB {fn : Func} {p q : Tmp} (h : fn.results = #[.cell p 46, .cell q 46]) {tmps : Array Value} {w : World} {g k : Nat} {C D : Array Value} (hp : tmps.getD p undef = .pointer (some ⟨g, 0, none⟩)) (hq : tmps.getD q undef = .pointer (some ⟨k, 0, none⟩))
    (hC : Blk w g 46 C) (hD : Blk w k 46 D) (h2 : C.size = 2) (h3 : D.size = 2) : (results fn tmps).run Tryz.prog w = .ok (.tuple #[.agg C, .agg D]) w := by
  obtain ⟨fs, hu⟩ := undB
  have hp' : tmps[p]?.getD undef = .pointer (some ⟨g, 0, none⟩) := by simpa using hp
  have hq' : tmps[q]?.getD undef = .pointer (some ⟨k, 0, none⟩) := by simpa using hq
  simp [results, h, hp', hq', asAddr, run_loadVar_row w g _ 46 C (0, 0) _ hC hu rfl (by rw [infoB, h2]), run_loadVar_row w k _ 46 D (0, 0) _ hD hu rfl (by rw [infoB, h3])]
theorem pm_quo (p q : Bool) (X Y : Nat) : (pm p X).tdiv (pm q Y) = pm (p != q) (X / Y) := by
  cases p <;> cases q <;> simp [pm, Int.neg_tdiv, Int.tdiv_neg]
theorem pm_rest (p q : Bool) (X Y : Nat) : (pm p X).tmod (pm q Y) = pm p (X % Y) := by
  cases p <;> cases q <;> simp [pm, Int.neg_tmod, Int.tmod_neg] <;> exact Int.tmod_eq_emod_of_nonneg (by omega)
def Guess3 (a b c v u g : Nat) : Prop := ∀ q, q < 18446744073709551616 → q * (v * 18446744073709551616 + u) ≤ (a * 18446744073709551616 + b) * 18446744073709551616 + c → q ≤ g
theorem guess3_first {a b c v u : Nat} (hv : 0 < v) (hc : c < 18446744073709551616) : Guess3 a b c v u ((18446744073709551616 * a + b) / v) := by
  intro q _ h
  rw [Nat.le_div_iff_mul_le hv]
  have h1 : q * v * 18446744073709551616 ≤ q * (v * 18446744073709551616 + u) := by
    rw [Nat.mul_add, Nat.mul_assoc]
    exact Nat.le_add_right _ _
  generalize q * v = k at *
  generalize q * (v * 18446744073709551616 + u) = l at *
  omega
theorem guess3_less {a b c v u t r : Nat} (hG : Guess3 a b c v u t) (h : t * v + r = a * 18446744073709551616 + b) (hlt : r * 18446744073709551616 + c < t * u) : 1 ≤ t ∧ Guess3 a b c v u (t - 1) := by
  have h1 : 1 ≤ t := by
    rcases Nat.eq_zero_or_pos t with h0 | h0
    · subst h0; rw [Nat.zero_mul] at hlt; omega
    · exact h0
  refine ⟨h1, fun q hq hle => ?_⟩
  have h2 := hG q hq hle
  rcases Nat.lt_or_ge q t with h3 | h3
  · omega
  · have e : q = t := by omega
    subst e
    rw [← h] at hle
    have e2 : q * (v * 18446744073709551616 + u) = q * v * 18446744073709551616 + q * u := by rw [Nat.mul_add, Nat.mul_assoc]
    rw [e2, Nat.add_mul] at hle
    omega
set_option maxHeartbeats 2000000 in
theorem guess3_any (a b c v u : Nat) (ha : a < 18446744073709551616) (hb : b < 18446744073709551616) (hc : c < 18446744073709551616) (hv : v < 18446744073709551616) (hu : u < 18446744073709551616) (w : World) :
    Calls Tryz.prog 138 #[.int .u64 (a : Nat), .int .u64 (b : Nat), .int .u64 (c : Nat), .int .u64 (v : Nat), .int .u64 (u : Nat)] w fun e w' => Up w w' ∧ ∃ x, e = .returned x ∧ ∃ g : Nat, x = .int .u64 (g : Nat) ∧ g < 18446744073709551616 ∧ Guess3 a b c v u g := by
  by_cases h : v ≤ a
  · go_enter Tryz.func138, Tryz.ntmps138
    go_wp2
    go_ret
    exact ⟨gUp, _, rfl, 18446744073709551615, rfl, by omega, fun q hq _ => by omega⟩
  · have hD := fun w => div64_any a b v hv hb (by omega) w
    have hG := guess3_first (a := a) (b := b) (u := u) (show 0 < v by omega) hc
    have hq := short_q (show a < v by omega) hb
    have hr := Nat.mod_lt (18446744073709551616 * a + b) (show 0 < v by omega)
    have hdm := Nat.div_add_mod (18446744073709551616 * a + b) v
    generalize (18446744073709551616 * a + b) / v = t0 at *
    generalize (18446744073709551616 * a + b) % v = r0 at *
    have HD := hid hD
    have HG := hid hG
    have HE := hid (show t0 * v + r0 = a * 18446744073709551616 + b by rw [Nat.mul_comm t0, hdm]; omega)
    clear hD hG hdm
    go_enter Tryz.func138, Tryz.ntmps138
    go_wp2_with (go_at_call 136; (with_reducible refine (HD.out _).mono ?_); rintro e w' ⟨rfl, hu1⟩)
    go_loopw [11, 12, 13] (fun tt tr ti wr => ∃ (t r i : Nat), tt = .int .u64 (t : Nat) ∧ tr = .int .u64 (r : Nat) ∧ ti = .int .i64 (i : Nat) ∧ i ≤ 2 ∧ t < 18446744073709551616 ∧ r < 18446744073709551616 ∧ t * v + r = a * 18446744073709551616 + b ∧ Guess3 a b c v u t ∧ Up w wr)
      (fun _ _ ti _ => 2 - (intOf ti).toNat)
    case atStart => exact ⟨t0, r0, 0, rfl, rfl, rfl, by omega, hq, by omega, HE.out, HG.out, gUp⟩
    case round =>
      obtain ⟨t, r, i, rfl, rfl, rfl, hi, ht, hr1, he, hg, hup⟩ := hrel
      have He := hid he
      have Hg := hid hg
      clear he hg HE HG
      by_cases hi2 : i < 2
      · obtain ⟨hi1, lo1, hm, eh, el⟩ : ∃ h l : Nat, Hid (∀ w, Calls Tryz.prog 91 #[.int .u64 t, .int .u64 u] w fun e w' => e = .returned (.tuple #[.int .u64 (h : Nat), .int .u64 (l : Nat)]) ∧ w' = w) ∧
          h = t * u / 18446744073709551616 ∧ l = t * u % 18446744073709551616 := ⟨_, _, hid (Tryz.bits_Mul64 t u ht hu), rfl, rfl⟩
        have hml : t * u = hi1 * 18446744073709551616 + lo1 := by omega
        have hlo : lo1 < 18446744073709551616 := by omega
        have hhi : hi1 < 18446744073709551616 := by
          have : t * u ≤ 18446744073709551615 * 18446744073709551615 := Nat.mul_le_mul (by omega) (by omega)
          omega
        have HML := hid hml
        clear eh el hml
        by_cases hle : hi1 < r ∨ (hi1 = r ∧ lo1 ≤ c)
        · rcases hle with hlt | ⟨hee, hll⟩
          · go_wp2_with (first | go_skip | (go_at_call 91; (with_reducible refine (hm.out _).mono ?_); rintro e w' ⟨rfl, rfl⟩))
            go_ret
            exact ⟨gUp, _, rfl, t, rfl, ht, Hg.out⟩
          · subst hee
            go_wp2_with (first | go_skip | (go_at_call 91; (with_reducible refine (hm.out _).mono ?_); rintro e w' ⟨rfl, rfl⟩))
            go_ret
            exact ⟨gUp, _, rfl, t, rfl, ht, Hg.out⟩
        · by_cases hee : hi1 = r
          · have hll : ¬ lo1 ≤ c := fun h2 => hle (.inr ⟨hee, h2⟩)
            subst hee
            clear hle
            obtain ⟨h1t, hG2⟩ := guess3_less Hg.out He.out (by have := HML.out; omega)
            obtain ⟨T, hT⟩ : ∃ T, t - 1 = T := ⟨_, rfl⟩
            rw [hT] at hG2
            have eg : IntKind.u64.wrap ((t : Int) - 1) = (T : Nat) := by rw [IntKind.wrap_u64]; omega
            have HG2 := hid hG2
            have HT := hid (show t = T + 1 by omega)
            obtain ⟨s, x, hadd, hs, hsl, hx1⟩ : ∃ s x : Nat, (∀ w, (callFunc 88 #[.int .u64 (hi1 : Nat), .int .u64 (v : Nat), .int .u64 0]).run Tryz.prog w = .ok (.value (.tuple #[.int .u64 (s : Nat), .int .u64 (x : Nat)])) w) ∧ Hid (s + x * 18446744073709551616 = hi1 + v) ∧ s < 18446744073709551616 ∧ x ≤ 1 := by
              have h := run_add hi1 v 0 (by omega)
              simp only [show ((0 : Nat) : Int) = 0 from rfl] at h
              exact ⟨_, _, h, hid (by omega), Nat.mod_lt _ (by decide), by omega⟩
            clear hG2 hT h1t
            rcases (show x = 0 ∨ x = 1 by omega) with rfl | rfl
            · go_wp2_with (first | go_skip | (go_at_call 91; (with_reducible refine (hm.out _).mono ?_); rintro e w' ⟨rfl, rfl⟩))
              go_roundw
              case rel =>
                refine ⟨T, s, i + 1, rfl, rfl, by go_num, by omega, by have := HT.out; omega, hsl, ?_, HG2.out, gUp⟩
                have h1 := He.out
                have h2 := hs.out
                rw [HT.out, Nat.add_mul] at h1
                omega
              case measure => simp [intOf] <;> omega
            · go_wp2_with (first | go_skip | (go_at_call 91; (with_reducible refine (hm.out _).mono ?_); rintro e w' ⟨rfl, rfl⟩))
              go_ret
              exact ⟨gUp, _, rfl, T, rfl, by have := HT.out; omega, HG2.out⟩
          · have hn : ¬ hi1 < r := fun h2 => hle (.inl h2)
            have hb1 : ((hi1 : Int) == (r : Int)) = false := by simp; omega
            clear hle
            obtain ⟨h1t, hG2⟩ := guess3_less Hg.out He.out (by have := HML.out; omega)
            obtain ⟨T, hT⟩ : ∃ T, t - 1 = T := ⟨_, rfl⟩
            rw [hT] at hG2
            have eg : IntKind.u64.wrap ((t : Int) - 1) = (T : Nat) := by rw [IntKind.wrap_u64]; omega
            have HG2 := hid hG2
            have HT := hid (show t = T + 1 by omega)
            obtain ⟨s, x, hadd, hs, hsl, hx1⟩ : ∃ s x : Nat, (∀ w, (callFunc 88 #[.int .u64 (r : Nat), .int .u64 (v : Nat), .int .u64 0]).run Tryz.prog w = .ok (.value (.tuple #[.int .u64 (s : Nat), .int .u64 (x : Nat)])) w) ∧ Hid (s + x * 18446744073709551616 = r + v) ∧ s < 18446744073709551616 ∧ x ≤ 1 := by
              have h := run_add r v 0 (by omega)
              simp only [show ((0 : Nat) : Int) = 0 from rfl] at h
              exact ⟨_, _, h, hid (by omega), Nat.mod_lt _ (by decide), by omega⟩
            clear hG2 hT h1t
            rcases (show x = 0 ∨ x = 1 by omega) with rfl | rfl
            · go_wp2_with (first | go_skip | (go_at_call 91; (with_reducible refine (hm.out _).mono ?_); rintro e w' ⟨rfl, rfl⟩))
              go_roundw
              case rel =>
                refine ⟨T, s, i + 1, rfl, rfl, by go_num, by omega, by have := HT.out; omega, hsl, ?_, HG2.out, gUp⟩
                have h1 := He.out
                have h2 := hs.out
                rw [HT.out, Nat.add_mul] at h1
                omega
              case measure => simp [intOf] <;> omega
            · go_wp2_with (first | go_skip | (go_at_call 91; (with_reducible refine (hm.out _).mono ?_); rintro e w' ⟨rfl, rfl⟩))
              go_ret
              exact ⟨gUp, _, rfl, T, rfl, by have := HT.out; omega, HG2.out⟩
      · go_wp2
        go_ret
        exact ⟨hup, _, rfl, t, rfl, ht, Hg.out⟩
theorem op_shrI {P : Program} {o : Oper} {a : Act} {x y : Operand} {t u : TypeId} (ho : o.op = .binOp .shr t x y u) {X s : Nat} (hx : a.eval x = .int .u64 (X : Nat)) (hy : a.eval y = .int .i64 (s : Nat)) (hs : s ≤ 64) (w : World) :
    (execOp a.eval o).run P w = .ok (.value (.int .u64 ((X / 2 ^ s : Nat) : Int))) w := by
  unfold execOp
  simp only [ho, hx, hy, eqGuard, binOp, shift_shr .u64 .i64 (X : Int) (s : Int) (by omega) (show (s : Int) ≤ 64 by omega)]
  simp
theorem shrIP {P : Program} {t u : TypeId} {ops : Array Oper} {rest : List Oper} {Q : Exit → Act → World → Prop} {a : Act} {w : World} {d : Option Tmp} {p q : Tmp} {ty : TypeId} {pos : String} {af : Array Edge} {gd : Option (Nat × Bool)} {X Y : Nat}
    (hw : Region.wanted { dst := d, op := .binOp .shr t (.tmp p) (.tmp q) u, type := ty, pos := pos, after := af, guard := gd } (yielded ops a.tmps) = true) (hx : a.eval (.tmp p) = .int .u64 (X : Nat)) (hy : a.eval (.tmp q) = .int .i64 (Y : Nat)) (hs : Y ≤ 64)
    (h : wpList P ops Q rest (a.put d (.int .u64 ((X / 2 ^ Y : Nat) : Int))) w) : wpList P ops Q ({ dst := d, op := .binOp .shr t (.tmp p) (.tmp q) u, type := ty, pos := pos, after := af, guard := gd } :: rest) a w := wpList_run hw (op_shrI rfl hx hy hs w) h
theorem op_shlI {P : Program} {o : Oper} {a : Act} {x y : Operand} {t u : TypeId} (ho : o.op = .binOp .shl t x y u) {X s : Nat} (hx : a.eval x = .int .u64 (X : Nat)) (hy : a.eval y = .int .i64 (s : Nat)) (hs : s ≤ 64) (w : World) :
    (execOp a.eval o).run P w = .ok (.value (.int .u64 ((X * 2 ^ s % 18446744073709551616 : Nat) : Int))) w := by
  have e : IntKind.u64.wrap ((X : Int) * 2 ^ s) = ((X * 2 ^ s % 18446744073709551616 : Nat) : Int) := by
    rw [IntKind.wrap_u64, show (2 : Int) ^ s = ((2 ^ s : Nat) : Int) by simp, ← Int.natCast_mul]
    generalize X * 2 ^ s = q
    omega
  unfold execOp
  simp only [ho, hx, hy, eqGuard, binOp, shift_shl .u64 .i64 (X : Int) (s : Int) (by omega) (show (s : Int) ≤ 64 by omega)]
  simpa using e
def rsf (x s i : Nat) : Nat → Nat := fun j => if j < i then rsh (limb x) s j else 0
theorem rsf_next (x s i : Nat) : upd (rsf x s i) i (rsh (limb x) s i) = rsf x s (i + 1) := by
  funext j
  unfold upd rsf
  by_cases e : j = i
  · subst e; simp
  · rw [if_neg e]
    by_cases h : j < i
    · rw [if_pos h, if_pos (by omega)]
    · rw [if_neg h, if_neg (by omega)]
theorem rsh_last {x s i : Nat} (h : limb x (i + 1) = 0 ∨ s = 0) : rsh (limb x) s i = limb x i / 2 ^ s := by
  unfold rsh
  rcases h with h | h
  · rw [h]; simp
  · subst h; simp [Nat.mod_one]
theorem rsh_all {x s : Nat} (hs : s < 64) : sumL (rsh (limb x) s) (nl x) = x / 2 ^ s := by
  rw [rsh_num (by omega) (fun i _ => limb_lt x i), sumL_limb, Nat.mod_eq_of_lt (Nat.lt_of_lt_of_le (lt_bp_nl x) (bp_mono (by omega)))]
  exact Nat.mod_eq_of_lt (Nat.lt_of_le_of_lt (Nat.div_le_self _ _) (lt_bp_nl x))
set_option maxHeartbeats 2000000 in
theorem right_am {x s : Nat} {va : Value} {w : World} (ha : Am w va x) (hx : nl x < 100000) (hs : s < 64) :
    Calls Tryz.prog 139 #[va, .int .i64 (s : Nat)] w fun e w' => Up w w' ∧ ∃ v, e = .returned v ∧ Am w' v (x / 2 ^ s) := by
  obtain ⟨a, ca, rfl, hca1, hca0⟩ := ha.open
  obtain ⟨n, hn⟩ : ∃ n, nl x = n := ⟨_, rfl⟩
  have hz : ∀ j, n ≤ j → limb x j = 0 := fun j hj => limb_nl (by omega)
  have hA := rsh_all (x := x) hs
  rw [hn] at hca1 hca0 hx hA ⊢
  have HZ := hid hz
  have HA := hid hA
  clear ha hn hz hA
  have hs2 : s ≤ 64 := by omega
  go_enter Tryz.func139, Tryz.ntmps139
  go_wp2_with (first | ((with_reducible apply mkP (n := n)); exact rfl; (first | rfl | omega); omega))
  go_loopw [6] (fun ti wr => ∃ (i : Nat), i ≤ n ∧ ti = .int .i64 (i : Nat) ∧ Row wr w.heap.size 31 n (rsf x s i) ∧ Below w.heap.size w wr)
    (fun ti _ => n - (intOf ti).toNat)
  case atStart => exact ⟨0, by omega, rfl, by rw [show rsf x s 0 = fun _ => 0 by funext j; simp [rsf]]; exact row_newc _ _ _ rfl, gUp⟩
  case round =>
    obtain ⟨i, hi, rfl, hS, hB⟩ := hrel
    by_cases hlt : i < n
    · obtain ⟨ba, rfl, hba, hca⟩ := hca0 i hlt
      have hcx := hca wr hB
      have hcs := hS.cell i hlt
      have hfs := hS.frozen i
      have hla := limb_lt x i
      obtain ⟨r, hr⟩ : ∃ r, limb x i / 2 ^ s = r := ⟨_, rfl⟩
      have gS := hS.set i r
      have gB := hB.setCell (p := ⟨w.heap.size, i, none⟩) (Nat.le_refl _) (.int .u64 (r : Nat))
      have HR := hid hr
      by_cases hmore : 0 < s ∧ i + 1 < n
      · obtain ⟨h0, h1⟩ := hmore
        obtain ⟨bb, he, hbb, hcb⟩ := hca0 (i + 1) h1
        obtain rfl : ba = bb := by simpa using he
        have d1 : decide ((0 : Int) < (s : Nat)) = true := decide_eq_true (by omega)
        have e1 : IntKind.i64.wrap ((i : Int) + 1) = (i : Int) + 1 := IntWalk.i64_in _ (by omega)
        have d2 : decide ((i : Int) + 1 < (n : Nat)) = true := decide_eq_true (by omega)
        have d3 : ((i : Int) + 1).toNat = i + 1 := by omega
        have d4 : (0 : Int) ≤ (i : Int) + 1 := by omega
        have d5 : (i : Int) + 1 < (n : Nat) := by omega
        have e2 : IntKind.i64.wrap (64 - (s : Int)) = ((64 - s : Nat) : Int) := by rw [IntWalk.i64_in _ (by omega)]; omega
        have hor := rsh_or (x := limb x i) (y := limb x (i + 1)) (show s ≤ 64 by omega) hla
        rw [hr] at hor
        have hc2 := hcb _ gB
        have hc3 := gS.cell i hlt
        rw [upd_same] at hc3
        have hrl : r < 18446744073709551616 := by rw [← hr]; exact Nat.lt_of_le_of_lt (Nat.div_le_self _ _) hla
        obtain ⟨z, hz⟩ : ∃ z, 64 - s = z := ⟨_, rfl⟩
        rw [hz] at e2 hor
        have hz64 : z ≤ 64 := by omega
        have Hor := hid hor
        have Hz := hid hz
        clear hS hB hr hor he hz
        go_upto_region 7 with (first | go_skip | ((with_reducible apply shrIP); exact rfl; exact rfl; exact rfl; exact hs2; rw [HR.out]))
        refine opU (S := (fun wq => Row wq w.heap.size 31 n (upd (rsf x s i) i r) ∧ wq.cell? ⟨w.heap.size, i, none⟩ = some (.int .u64 (r : Nat)) ∧ wq.cell? ⟨ba, i + 1, none⟩ = some (.int .u64 (limb x (i + 1) : Nat)) ∧ Below w.heap.size w wq)) (req := (fun j => j != 14)) (fun _ _ h hu => ⟨(h.1).up hu, hu.cell (h.2.1), hu.cell (h.2.2.1), below_up (h.2.2.2) hu⟩) ⟨gRow, (by first | assumption | (apply Blk.cell; exact gBlk; exact rfl)), (by first | assumption | (apply Blk.cell; exact gBlk; exact rfl)), gUp⟩ (fun wS hSS hSu => ?_)
        have ⟨hS1, hS2, hS3, hSB⟩ := hSS
        clear hc2 hc3 gS gB
        refine tkP 0 (some 34) hSu ?_
        refine tkP 1 (some 35) hSu ?_
        refine tkP 2 (some 36) hSu ?_
        refine tkT 3 (some 37) rfl hSu hSS ?_ (hy := fun w' hSw => by ((try dsimp only at hSw); (try obtain ⟨_, _, _, _⟩ := hSw); go_simp; (try exact rfl)))
        refine tkP 4 (some 38) hSu ?_
        refine tkP 5 (some 39) hSu ?_
        refine tkP 6 (some 40) hSu ?_
        refine tkP 7 (some 41) hSu ?_
        refine tkT 8 (some 42) rfl hSu hSS ?_ (hy := fun w' hSw => by ((try dsimp only at hSw); (try obtain ⟨_, _, _, _⟩ := hSw); go_simp; (try exact rfl)))
        refine tkP 9 (some 43) hSu ?_
        refine tkP 10 (some 44) hSu ?_
        refine tkO 11 (some 45) rfl hSu ?_ (hy := fun w' => op_shlI rfl rfl rfl hz64 _)
        refine tkO 12 (some 46) rfl hSu ?_ (hy := fun w' => op_or rfl rfl rfl hrl (Nat.mod_lt _ (by decide)) _)
        refine tkP 13 (some 47) hSu ?_
        obtain ⟨v, hv⟩ : ∃ v, r ||| limb x (i + 1) * 2 ^ z % 18446744073709551616 = v := ⟨_, rfl⟩
        rw [hv]
        have hvr : v = rsh (limb x) s i := by
          rw [← hv, Hor.out]
          unfold rsh
          rw [Hz.out, HR.out]
        have HV := hid hvr
        clear hv hvr
        refine wpAnyU_one (i := 14) rfl (by kernel_rfl) (by rfl) fun w1 hw1 => ?_
        have hcW := (hS1.up hw1).cell i (by omega)
        have hfW := (hS1.up hw1).frozen i
        go_simp
        clear hcW hfW
        refine wpAnyU_done (by kernel_rfl) (fun wF huE => ?_) _
        have gS : Row wF w.heap.size 31 n (rsf x s (i + 1)) := by
          have h := ((hS1.up hw1).set i v).up huE
          rw [show upd (upd (rsf x s i) i r) i v = rsf x s (i + 1) by rw [← rsf_next, ← HV.out]; funext j; unfold upd; split <;> rfl] at h
          exact h
        have gB := below_up ((below_up hSB hw1).setCell (p := ⟨w.heap.size, i, none⟩) (Nat.le_refl _) (.int .u64 (v : Nat))) huE
        clear hS1 hS2 hS3 hSB hSS hw1 huE
        go_wp2
        go_roundw
        case rel => exact ⟨i + 1, by omega, by go_num, gS, gB⟩
        case measure => simp [intOf] <;> omega
      · have hlast : rsh (limb x) s i = r := by
          rw [← hr]
          refine rsh_last ?_
          by_cases h0 : s = 0
          · exact .inr h0
          · exact .inl (HZ.out _ (by omega))
        rw [show upd (rsf x s i) i r = rsf x s (i + 1) by rw [← rsf_next, hlast]] at gS
        clear hS hB hr hlast
        by_cases h0 : 0 < s
        · have h1 : ¬ i + 1 < n := fun h => hmore ⟨h0, h⟩
          have d1 : decide ((0 : Int) < (s : Nat)) = true := decide_eq_true (by omega)
          have e1 : IntKind.i64.wrap ((i : Int) + 1) = (i : Int) + 1 := IntWalk.i64_in _ (by omega)
          have d2 : decide ((i : Int) + 1 < (n : Nat)) = false := decide_eq_false (by omega)
          clear hmore
          go_wp2_with (first | go_skip | ((with_reducible apply shrIP); exact rfl; exact rfl; exact rfl; exact hs2; rw [HR.out]))
          go_roundw
          case rel => exact ⟨i + 1, by omega, by go_num, gS, gB⟩
          case measure => simp [intOf] <;> omega
        · have d1 : decide ((0 : Int) < (s : Nat)) = false := decide_eq_false (by omega)
          clear hmore
          go_wp2_with (first | go_skip | ((with_reducible apply shrIP); exact rfl; exact rfl; exact rfl; exact hs2; rw [HR.out]))
          go_roundw
          case rel => exact ⟨i + 1, by omega, by go_num, gS, gB⟩
          case measure => simp [intOf] <;> omega
    · obtain rfl : i = n := by omega
      have hlt2 : ∀ j, j < i → rsf x s i j < 18446744073709551616 := fun j hj => by
        unfold rsf
        rw [if_pos hj]
        exact rsh_lt (by omega) (limb_lt x j)
      have he : sumL (rsf x s i) i = x / 2 ^ s := by
        rw [← HA.out]
        exact sumL_congr fun j hj => by unfold rsf; rw [if_pos hj]
      have ht := trim_row w.heap.size i i i (rsf x s i) wr hS (Nat.le_refl _) (Nat.le_refl _) (by omega)
      have hres := am_row (c := i) hS (Nat.le_refl _) (Nat.le_refl _) hlt2
      rw [he] at hres
      have HT := hid ht
      have HRS := hid hres
      clear ht hres he hS
      go_wp2_with (first | (go_at_call 74; (with_reducible refine HT.out.mono ?_); rintro e wT ⟨rfl, huT⟩))
      go_ret
      exact ⟨gUp, _, rfl, HRS.out.up huT⟩
set_option maxHeartbeats 4000000 in
theorem left_row {x s : Nat} {va : Value} {w : World} (ha : Am w va x) (hx : nl x < 100000) (h0 : 0 < x) (hs : s < 64) :
    Calls Tryz.prog 87 #[va, .int .i64 (s : Nat)] w fun e w' => Up w w' ∧ ∃ v, e = .returned v ∧ ∃ S : Nat → Nat, v = .slice (some ⟨w.heap.size, 0, none⟩) (nl (x * 2 ^ s)) (nl x + 1) ∧ (∀ j, j < nl x + 1 → S j = limb (x * 2 ^ s) j) ∧ Row w' w.heap.size 31 (nl x + 1) S := by
  obtain ⟨a, ca, rfl, hca1, hca0⟩ := ha.open
  obtain ⟨n, hn⟩ : ∃ n, nl x = n := ⟨_, rfl⟩
  have hA : sumL (limb x) n = x := by rw [← hn]; exact sum_nl x
  have hn0 : 0 < n := by rw [← hn]; exact nl_pos h0
  rw [hn] at hca1 hca0 hx ⊢
  have HA := hid hA
  clear ha hn hA
  have hs2 : s ≤ 64 := by omega
  have eq0 : (s : Int).tdiv 64 = 0 := by
    rw [show (64 : Int) = ((64 : Nat) : Int) from rfl, ← Int.ofNat_tdiv, Nat.div_eq_of_lt hs]; rfl
  have eq1 : s / 64 = 0 := Nat.div_eq_of_lt hs
  have er0 : (s : Int).tmod 64 = (s : Nat) := by
    rw [show (64 : Int) = ((64 : Nat) : Int) from rfl, ← Int.ofNat_tmod, Nat.mod_eq_of_lt hs]
  have en0 : ((n : Int) == 0) = false := by simp; omega
  have en1 : IntKind.i64.wrap (n : Int) = (n : Nat) := IntWalk.i64_in _ (by omega)
  have en2 : IntKind.i64.wrap ((n : Int) + 1) = (n : Int) + 1 := IntWalk.i64_in _ (by omega)
  go_enter Tryz.func87, Tryz.ntmps87
  go_wp2_with (first | ((with_reducible apply mkP (n := n + 1)); exact rfl; (first | rfl | omega | (simp; done)); omega))
  go_loopw [7] (fun ti wr => ∃ (i : Nat) (S : Nat → Nat), i ≤ n ∧ ti = .int .i64 (i : Nat) ∧ (∀ j, j < n + 1 → S j < 18446744073709551616) ∧ sumL S (i + 1) = sumL (limb x) i * 2 ^ s ∧ S i < 2 ^ s ∧ (∀ j, i < j → j < n + 1 → S j = 0) ∧ Row wr w.heap.size 31 (n + 1) S ∧ Below w.heap.size w wr)
    (fun ti _ => n - (intOf ti).toNat)
  case atStart => exact ⟨0, fun _ => 0, by omega, rfl, fun _ _ => by simp, by simp [sumL_succ, sumL_zero], Nat.two_pow_pos s, fun _ _ _ => rfl, row_newc _ _ _ rfl, gUp⟩
  case round =>
    obtain ⟨i, S, hi, rfl, hSb, hsum, hSi, hS0, hS, hB⟩ := hrel
    have HSb := hid hSb
    have Hsum := hid hsum
    have HS0 := hid hS0
    clear hSb hsum hS0
    by_cases hlt : i < n
    · obtain ⟨ba, rfl, hba, hca⟩ := hca0 i hlt
      have ew0 : IntKind.i64.wrap 0 = 0 := by rw [IntKind.wrap_i64]; rfl
      have ei1 : IntKind.i64.wrap (i : Int) = (i : Nat) := IntWalk.i64_in _ (by omega)
      have ei2 : IntKind.i64.wrap ((i : Int) + 1) = (i : Int) + 1 := IntWalk.i64_in _ (by omega)
      have ei3 : ((i : Int) + 1).toNat = i + 1 := by omega
      have ei4 : (0 : Int) ≤ (i : Int) + 1 := by omega
      have ei5 : (i : Int) < (n : Int) + 1 := by omega
      have ei6 : (i : Int) + 1 < (n : Int) + 1 := by omega
      have hcx := hca wr hB
      have hcs := hS.cell i (by omega)
      have hSi64 := HSb.out i (by omega)
      obtain ⟨r1, e1⟩ : ∃ r1, r1 = S i ||| limb x i * 2 ^ s % 18446744073709551616 := ⟨_, rfl⟩
      obtain ⟨r2, e2⟩ : ∃ r2, r2 = limb x i / 2 ^ (64 - s) := ⟨_, rfl⟩
      have hst := lsh_step hs (limb_lt x i) hSi
      rw [← e1, ← e2] at hst
      obtain ⟨hst1, hst2, hst3⟩ := hst
      have He1 := hid e1.symm
      have He2 := hid e2.symm
      have Hst1 := hid hst1
      clear e1 e2 hst1
      go_wp2
      refine opU (S := (fun wq => Row wq w.heap.size 31 (n + 1) S ∧ wq.cell? ⟨w.heap.size, i, none⟩ = some (.int .u64 (S i : Nat)) ∧ wq.cell? ⟨ba, i, none⟩ = some (.int .u64 (limb x i : Nat)) ∧ Below w.heap.size w wq)) (req := (fun j => j != 15)) (fun _ _ h hu => ⟨(h.1).up hu, hu.cell (h.2.1), hu.cell (h.2.2.1), below_up (h.2.2.2) hu⟩) ⟨gRow, (by first | assumption | (apply Blk.cell; exact gBlk; exact rfl)), (by first | assumption | (apply Blk.cell; exact gBlk; exact rfl)), gUp⟩ (fun wS hSS hSu => ?_)
      have ⟨hS1, hS2, hS3, hSB⟩ := hSS
      clear hcx hcs hS hB
      refine tkP 0 (some 26) hSu ?_
      refine tkP 1 (some 27) hSu ?_
      refine tkP 2 (some 28) hSu ?_
      refine tkP 3 (some 29) hSu ?_
      refine tkP 4 (some 30) hSu ?_
      refine tkP 5 (some 31) hSu ?_
      refine tkT 6 (some 32) rfl hSu hSS ?_ (hy := fun w' hSw => by ((try dsimp only at hSw); (try obtain ⟨_, _, _, _⟩ := hSw); go_simp; (try exact rfl)))
      refine tkP 7 (some 33) hSu ?_
      refine tkP 8 (some 34) hSu ?_
      refine tkP 9 (some 35) hSu ?_
      refine tkT 10 (some 36) rfl hSu hSS ?_ (hy := fun w' hSw => by ((try dsimp only at hSw); (try obtain ⟨_, _, _, _⟩ := hSw); go_simp; (try exact rfl)))
      refine tkP 11 (some 37) hSu ?_
      refine tkO 12 (some 38) rfl hSu ?_ (hy := fun w' => op_shlI rfl rfl rfl hs2 _)
      refine tkO 13 (some 39) rfl hSu ?_ (hy := fun w' => op_or rfl rfl rfl hSi64 (Nat.mod_lt _ (by decide)) _)
      rw [He1.out]
      refine tkP 14 (some 40) hSu ?_
      refine wpAnyU_one (i := 15) rfl (by kernel_rfl) (by rfl) fun w1 hw1 => ?_
      have hcW := (hS1.up hw1).cell i (by omega)
      have hfW := (hS1.up hw1).frozen i
      go_simp
      clear hcW hfW
      refine wpAnyU_done (by kernel_rfl) (fun wF huE => ?_) _
      have gM := ((hS1.up hw1).set i r1).up huE
      have gB := below_up ((below_up hSB hw1).setCell (p := ⟨w.heap.size, i, none⟩) (Nat.le_refl _) (.int .u64 (r1 : Nat))) huE
      clear hS1 hS2 hS3 hSB hSS hw1 huE
      have hr2 : r2 < 18446744073709551616 := by rw [← He2.out]; exact Nat.lt_of_le_of_lt (Nat.div_le_self _ _) (limb_lt x i)
      by_cases hs0 : 0 < s
      · have d1 : decide ((0 : Int) < (s : Nat)) = true := decide_eq_true (by omega)
        have ez : IntKind.i64.wrap (64 - (s : Int)) = ((64 - s : Nat) : Int) := by rw [IntWalk.i64_in _ (by omega)]; omega
        obtain ⟨z, hz⟩ : ∃ z, 64 - s = z := ⟨_, rfl⟩
        rw [hz] at ez
        have he2 := He2.out
        rw [hz] at he2
        have He3 := hid he2
        have hz64 : z ≤ 64 := by omega
        clear hz he2
        have hcx := hca wF gB
        have hcs := gM.cell (i + 1) (by omega)
        rw [upd_other _ _ _ (by omega), HS0.out (i + 1) (by omega) (by omega)] at hcs
        go_wp2_with fail
        refine opU (S := (fun wq => Row wq w.heap.size 31 (n + 1) (upd S i r1) ∧ wq.cell? ⟨w.heap.size, i + 1, none⟩ = some (.int .u64 (0 : Nat)) ∧ wq.cell? ⟨ba, i, none⟩ = some (.int .u64 (limb x i : Nat)) ∧ Below w.heap.size w wq)) (req := (fun j => j != 17)) (fun _ _ h hu => ⟨(h.1).up hu, hu.cell (h.2.1), hu.cell (h.2.2.1), below_up (h.2.2.2) hu⟩) ⟨gRow, (by first | assumption | (apply Blk.cell; exact gBlk; exact rfl)), (by first | assumption | (apply Blk.cell; exact gBlk; exact rfl)), gUp⟩ (fun wS hSS hSu => ?_)
        have ⟨hS1, hS2, hS3, hSB⟩ := hSS
        clear hcx hcs gM gB
        refine tkP 0 (some 43) hSu ?_
        refine tkP 1 (some 44) hSu ?_
        refine tkP 2 (some 45) hSu ?_
        refine tkP 3 (some 46) hSu ?_
        refine tkP 4 (some 47) hSu ?_
        refine tkP 5 (some 48) hSu ?_
        refine tkP 6 (some 49) hSu ?_
        refine tkT 7 (some 50) rfl hSu hSS ?_ (hy := fun w' hSw => by ((try dsimp only at hSw); (try obtain ⟨_, _, _, _⟩ := hSw); go_simp; (try exact rfl)))
        refine tkP 8 (some 51) hSu ?_
        refine tkP 9 (some 52) hSu ?_
        refine tkP 10 (some 53) hSu ?_
        refine tkT 11 (some 54) rfl hSu hSS ?_ (hy := fun w' hSw => by ((try dsimp only at hSw); (try obtain ⟨_, _, _, _⟩ := hSw); go_simp; (try exact rfl)))
        refine tkP 12 (some 55) hSu ?_
        refine tkP 13 (some 56) hSu ?_
        refine tkO 14 (some 57) rfl hSu ?_ (hy := fun w' => op_shrI rfl rfl rfl hz64 _)
        rw [He3.out]
        refine tkO 15 (some 58) rfl hSu ?_ (hy := fun w' => op_or (X := 0) rfl rfl rfl (by decide) hr2 _)
        rw [Nat.zero_or]
        refine tkP 16 (some 59) hSu ?_
        refine wpAnyU_one (i := 17) rfl (by kernel_rfl) (by rfl) fun w1 hw1 => ?_
        have hcW := (hS1.up hw1).cell (i+1) (by omega)
        have hfW := (hS1.up hw1).frozen (i+1)
        go_simp
        clear hcW hfW
        refine wpAnyU_done (by kernel_rfl) (fun wF huE => ?_) _
        have gM := ((hS1.up hw1).set (i + 1) r2).up huE
        have gB := below_up ((below_up hSB hw1).setCell (p := ⟨w.heap.size, i + 1, none⟩) (Nat.le_refl _) (.int .u64 (r2 : Nat))) huE
        clear hS1 hS2 hS3 hSB hSS hw1 huE
        go_wp2
        go_roundw
        case rel =>
          refine ⟨i + 1, upd (upd S i r1) (i + 1) r2, by omega, by go_num, upd_lt (upd_lt HSb.out hst3) hr2, ?_, by rw [upd_same]; exact hst2, fun j h1 h2 => by rw [upd_other _ _ _ (by omega), upd_other _ _ _ (by omega)]; exact HS0.out j (by omega) h2, gM, gB⟩
          have h1 := Hsum.out
          have h2 := Hst1.out
          rw [sumL_succ] at h1
          rw [sumL_upd_succ, sumL_upd_succ, sumL_succ, Nat.add_mul, ← h1, bp_succ]
          have h3 : (r1 + r2 * 18446744073709551616) * bp i = (S i + limb x i * 2 ^ s) * bp i := by rw [h2]
          clear h1 h2 Hsum Hst1 He1 He2 hst2
          generalize limb x i = xk at *
          generalize S i = gk at *
          generalize bp i = b at *
          generalize 2 ^ s = p at *
          generalize sumL S i = T at *
          grind
        case measure => simp [intOf] <;> omega
      · have d1 : decide ((0 : Int) < (s : Nat)) = false := decide_eq_false (by omega)
        have hz2 : r2 = 0 := by
          rw [← He2.out, show 64 - s = 64 by omega]
          exact Nat.div_eq_of_lt (limb_lt x i)
        have gM2 : Row wF w.heap.size 31 (n + 1) (upd (upd S i r1) (i + 1) r2) := by
          refine gM.congr fun j hj => ?_
          by_cases e : j = i + 1
          · rw [e, upd_same, upd_other _ _ _ (by omega), HS0.out (i + 1) (by omega) (by omega), hz2]
          · rw [upd_other _ _ _ e]
        clear gM hz2
        have gM := hid gM2
        clear gM2
        go_wp2
        go_roundw
        case rel =>
          refine ⟨i + 1, upd (upd S i r1) (i + 1) r2, by omega, by go_num, upd_lt (upd_lt HSb.out hst3) hr2, ?_, by rw [upd_same]; exact hst2, fun j h1 h2 => by rw [upd_other _ _ _ (by omega), upd_other _ _ _ (by omega)]; exact HS0.out j (by omega) h2, gM.out, gB⟩
          have h1 := Hsum.out
          have h2 := Hst1.out
          rw [sumL_succ] at h1
          rw [sumL_upd_succ, sumL_upd_succ, sumL_succ, Nat.add_mul, ← h1, bp_succ]
          have h3 : (r1 + r2 * 18446744073709551616) * bp i = (S i + limb x i * 2 ^ s) * bp i := by rw [h2]
          clear h1 h2 Hsum Hst1 He1 He2 hst2
          generalize limb x i = xk at *
          generalize S i = gk at *
          generalize bp i = b at *
          generalize 2 ^ s = p at *
          generalize sumL S i = T at *
          grind
        case measure => simp [intOf] <;> omega
    · obtain rfl : i = n := by omega
      have he := Hsum.out
      rw [HA.out] at he
      have ht := trim_row w.heap.size (i + 1) (i + 1) (i + 1) S wr hS (Nat.le_refl _) (Nat.le_refl _) (by omega)
      have hcl : ∀ j, j < i + 1 → S j = limb (x * 2 ^ s) j := fun j hj => by rw [← he]; exact (limb_sumL HSb.out hj).symm
      have hnl : lenL S (i + 1) = nl (x * 2 ^ s) := by rw [← he, nl_sum HSb.out]
      rw [hnl] at ht
      have HCL := hid hcl
      have HSr := hid hS
      have HT := hid ht
      clear ht hcl hnl he hS
      go_wp2_with (first | (go_at_call 74; (with_reducible refine HT.out.mono ?_); rintro e wT ⟨rfl, huT⟩))
      go_ret
      exact ⟨gUp, _, rfl, S, rfl, HCL.out, HSr.out.up huT⟩
theorem guess3_ge {F V : Nat → Nat} {m P W g : Nat} (hF : ∀ j, j < m + 3 → F j < 18446744073709551616) (hW : sumL F (m + 3) = W) (hP : sumL V (m + 2) = P) (h0 : 0 < P) (hlt : W < P * 18446744073709551616) (hg : Guess3 (F (m + 2)) (F (m + 1)) (F m) (V (m + 1)) (V m) g) : W / P ≤ g := by
  refine hg (W / P) (by rw [Nat.div_lt_iff_lt_mul h0, Nat.mul_comm]; exact hlt) ?_
  have h1 := sumL_lt (f := F) (k := m) fun j hj => hF j (by omega)
  rw [sumL_succ, sumL_succ, sumL_succ, show bp (m + 2) = bp m * 18446744073709551616 * 18446744073709551616 by rw [bp_succ (m + 1), bp_succ m], bp_succ m] at hW
  rw [sumL_succ, sumL_succ, bp_succ] at hP
  have h2 := Nat.div_mul_le_self W P
  generalize W / P = q at *
  have h3 : q * ((V (m + 1) * 18446744073709551616 + V m) * bp m) ≤ q * P := by
    refine Nat.mul_le_mul_left _ ?_
    have e : (V (m + 1) * 18446744073709551616 + V m) * bp m = V m * bp m + V (m + 1) * (bp m * 18446744073709551616) := by grind
    omega
  have h4 : q * (V (m + 1) * 18446744073709551616 + V m) * bp m < ((F (m + 2) * 18446744073709551616 + F (m + 1)) * 18446744073709551616 + F m + 1) * bp m := by
    have e : ((F (m + 2) * 18446744073709551616 + F (m + 1)) * 18446744073709551616 + F m + 1) * bp m = F m * bp m + F (m + 1) * (bp m * 18446744073709551616) + F (m + 2) * (bp m * 18446744073709551616 * 18446744073709551616) + bp m := by grind
    rw [e, Nat.mul_assoc]
    omega
  have h5 := Nat.lt_of_mul_lt_mul_right h4
  omega
theorem nl_left {x s : Nat} (h0 : 0 < x) (hs : s < 64) : nl x ≤ nl (x * 2 ^ s) ∧ nl (x * 2 ^ s) ≤ nl x + 1 := by
  have h1 := lt_bp_nl x
  have h2 := bp_le_nl (nl_pos h0)
  have hp := Nat.two_pow_pos s
  have h3 : 2 ^ s ≤ 18446744073709551616 := Nat.pow_le_pow_right (n := 2) (by decide) (show s ≤ 64 by omega)
  constructor
  · rcases Nat.lt_or_ge (nl (x * 2 ^ s)) (nl x) with h | h
    · have h4 := lt_bp_nl (x * 2 ^ s)
      have h5 := bp_mono (show nl (x * 2 ^ s) ≤ nl x - 1 by omega)
      have h6 : x * 1 ≤ x * 2 ^ s := Nat.mul_le_mul_left _ hp
      omega
    · exact h
  · refine nl_le ?_
    rw [bp_succ]
    exact Nat.mul_lt_mul_of_lt_of_le h1 h3 (by decide)
theorem mul_step {t v c hi lo l2 c2 : Nat} (ht : t < 18446744073709551616) (hv : v < 18446744073709551616) (hc : c < 18446744073709551616) (eh : hi = t * v / 18446744073709551616) (el : lo = t * v % 18446744073709551616) (e1 : l2 = (lo + c + 0) % 18446744073709551616) (e2 : c2 = (lo + c + 0) / 18446744073709551616) :
    hi + c2 < 18446744073709551616 ∧ l2 + (hi + c2) * 18446744073709551616 = t * v + c ∧ l2 < 18446744073709551616 ∧ hi < 18446744073709551616 ∧ lo < 18446744073709551616 ∧ c2 ≤ 1 := by
  have h1 : t * v ≤ 18446744073709551615 * 18446744073709551615 := Nat.mul_le_mul (by omega) (by omega)
  generalize t * v = p at *
  omega
theorem over_more {S S' T : Nat → Nat} {N K i m P W W1 g X : Nat} (hm : i + m < N) (hi : i < K) (hS : ∀ j, j < N → S j < 18446744073709551616) (hX : X = sumL T K * P + sumL S N) (hT : T i = 0) (hR : sumL S N < bp (i + m + 1))
    (hW : sumL (fun j => S (i + j)) (m + 1) = W) (hW1 : sumL (fun j => S' (i + j)) (m + 1) = W1) (ho : ∀ j, j < i ∨ i + m < j → S' j = S j) (he : W1 + g * P = W) (hlt : W1 < P) :
    X = sumL (upd T i g) K * P + sumL S' N ∧ sumL S' N < P * bp i := by
  have hz := zero_above hR
  have e1 : sumL S N = sumL S i + W * bp i := by
    rw [sum_cut (show i + (m + 1) ≤ N by omega) (fun j h1 h2 => hz j (by omega) h2), sumL_split, hW]
  have e2 : sumL S' N = sumL S i + W1 * bp i := by
    rw [sum_cut (show i + (m + 1) ≤ N by omega) (fun j h1 h2 => by rw [ho j (by omega)]; exact hz j (by omega) h2), sumL_split, hW1, sumL_congr fun j hj => ho j (.inl hj)]
  have e3 := sumL_upd T g hi
  rw [hT, Nat.zero_mul, Nat.add_zero] at e3
  have h1 := sumL_lt (f := S) (k := i) fun j hj => hS j (by omega)
  constructor
  · rw [e2, e3, hX, e1, ← he]
    grind
  · rw [e2]
    have h2 : (W1 + 1) * bp i ≤ P * bp i := Nat.mul_le_mul_right _ hlt
    rw [Nat.add_mul] at h2
    omega
theorem over_start {x y n m s : Nat} (hx : x < bp n) (hm : 0 < m) (hmn : m ≤ n) (hs : s < 64) (hP : 9223372036854775808 * bp (m - 1) ≤ y * 2 ^ s) : x * 2 ^ s < bp (n + 1) ∧ x * 2 ^ s < y * 2 ^ s * bp (n - m + 1) := by
  have h5 : 2 ^ s ≤ 9223372036854775808 := Nat.pow_le_pow_right (n := 2) (by decide) (show s ≤ 63 by omega)
  have h6 : x * 2 ^ s < bp n * 9223372036854775808 := Nat.mul_lt_mul_of_lt_of_le hx h5 (by decide)
  have h8 : 9223372036854775808 * bp (m - 1) * bp (n - m + 1) ≤ y * 2 ^ s * bp (n - m + 1) := Nat.mul_le_mul_right _ hP
  rw [Nat.mul_assoc, ← bp_add, show m - 1 + (n - m + 1) = n by omega] at h8
  rw [bp_succ]
  omega
theorem over_guess {S V : Nat → Nat} {n m m1 m2 i P W g : Nat} (hm : m = m1 + 1) (hm2 : m1 = m2 + 1) (him : i + m < n + 1) (hS : ∀ j, j < n + 1 → S j < 18446744073709551616) (hP : sumL V m = P) (h0 : 0 < P) (hR : sumL S (n + 1) < P * bp (i + 1))
    (hW : sumL (fun j => S (i + j)) (m + 1) = W) (hG : Guess3 (S (i + m)) (S (i + m1)) (S (i + m2)) (V m1) (V m2) g) : W / P ≤ g := by
  subst hm2
  subst hm
  have h3 : W < P * 18446744073709551616 := by
    have h4 : W * bp i ≤ sumL S (n + 1) := by
      obtain ⟨d, hd⟩ : ∃ d, n + 1 = i + (m2 + 1 + 1 + 1) + d := ⟨n + 1 - (i + (m2 + 1 + 1 + 1)), by omega⟩
      rw [hd, sumL_split, sumL_split, hW]
      omega
    rw [bp_succ] at hR
    have h5 : W * bp i < P * 18446744073709551616 * bp i := by
      have e : P * 18446744073709551616 * bp i = P * (bp i * 18446744073709551616) := by grind
      omega
    exact Nat.lt_of_mul_lt_mul_right h5
  exact guess3_ge (F := fun j => S (i + j)) (V := V) (m := m2) (fun j hj => hS _ (by omega)) hW hP h0 h3 hG
theorem wrap_room {c n : Nat} {f : Nat → Nat} (hn : n < c) (h0 : f n = 0) :
    ((cells c f).toList.take (n * 1) ++ [Value.int .u64 0] ++ (cells c f).toList.drop (n * 1 + 1)).toArray = cells c f := by
  apply Array.ext'
  apply List.ext_getElem?
  intro i
  simp only [Nat.mul_one]
  have hl : (cells c f).toList.length = c := by simp [cells_size]
  have hl2 : (List.take n (cells c f).toList).length = n := by rw [List.length_take, hl]; omega
  by_cases h1 : i < n
  · rw [List.append_assoc, List.getElem?_append_left (by omega), List.getElem?_take_of_lt h1]
  · by_cases h2 : i = n
    · subst h2
      rw [List.append_assoc, List.getElem?_append_right (by omega), hl2, Nat.sub_self]
      simp only [List.cons_append, List.getElem?_cons_zero]
      rw [Array.getElem?_toList, cells_get c f i hn, h0]
      rfl
    · rw [List.append_assoc, List.getElem?_append_right (by omega), hl2, List.getElem?_append_right (by simp; omega), List.getElem?_drop]
      simp only [List.length_cons, List.length_nil]
      congr 1
      omega
theorem app0P {ops : Array Oper} {rest : List Oper} {Q : Exit → Act → World → Prop} {a : Act} {w : World} {d : Option Tmp} {s u : Tmp} {ty : TypeId} {pos : String} {af : Array Edge} {g b n c : Nat} {f : Nat → Nat}
    (hs : a.eval (.tmp s) = .slice (some ⟨g, 0, none⟩) n c) (hu : a.eval (.tmp u) = .slice (some ⟨b, 0, none⟩) 1 1) (hR : Row w g 31 c f) (hB : w.cell? ⟨b, 0, none⟩ = some (.int .u64 0)) (hn : n < c) (h0 : f n = 0)
    (h : wpList Tryz.prog ops Q rest (a.put d (.slice (some ⟨g, 0, none⟩) (n + 1) c)) (w.setRow g (cells c f))) :
    wpList Tryz.prog ops Q ({ dst := d, op := .call { callee := .builtin .append, args := #[.tmp s, .tmp u], argTypes := #[44, 44] }, type := ty, pos := pos, after := af, guard := none } :: rest) a w := by
  obtain ⟨i0, hi, hz0, hz1, hz2⟩ := info_parts infoU
  refine wpList_plain rfl fun _ hK => ?_
  have hr := run_append_room (P := Tryz.prog) w 44 ty 31 i0 undS hi g n c (cells c f) hR ⟨b, 0, none⟩ 1 1 [.int .u64 0] (by rw [hz1]; rfl)
    (fun j v hj => by
      cases j with
      | zero => simp only [List.getElem?_cons_zero, Option.some.injEq] at hj; subst hj; exact hB
      | succ j => simp at hj)
    (fun v hv => by simp at hv; subst hv; rfl) (by omega) (by rw [hz1]; simp [cells_size]; omega)
  rw [hz1, show ([Value.int .u64 0] : List Value).length = 1 from rfl, wrap_room hn h0] at hr
  unfold Oper.wp execOp
  simp only [resolve, invoke, builtin, Sem.run_bind, Sem.run_pure, Result.andThen_ok, List.map_toArray, List.map_cons, List.map_nil, hs, hu, hr]
  exact hK _ _ h
set_option maxHeartbeats 16000000 in
theorem over_long {x y : Nat} {va vb : Value} {w : World} (ha : Am w va x) (hb : Am w vb y) (hx : nl x < 50000) (hxy : y ≤ x) (hy : 2 ≤ nl y) :
    Calls Tryz.prog 119 #[va, vb] w fun e w' => Up w w' ∧ ∃ a n c b m d, e = .returned (.tuple #[.slice a n c, .slice b m d]) ∧ Am w' (.slice a n c) (x / y) ∧ Am w' (.slice b m d) (x % y) := by
  obtain ⟨a, ca, rfl, hca1, hca0⟩ := ha.open
  obtain ⟨b, cb, rfl, hcb1, hcb0⟩ := hb.open
  have hxn := lt_bp_nl x
  have hyn := lt_bp_nl y
  have htop : limb y (nl y - 1) ≠ 0 := lenL_top (limb y) y (show 0 < nl y by omega)
  have hmn : nl y ≤ nl x := nl_le (Nat.lt_of_le_of_lt hxy hxn)
  have hy0 : 0 < y := nl_pos_iff.1 (by omega)
  obtain ⟨s, hs⟩ : ∃ s, s = 64 - Lib.bitLen (limb y (nl y - 1)) := ⟨_, rfl⟩
  obtain ⟨hP1, hP2, hs64⟩ := norm_part hyn (by omega) htop hs
  have hlz := fun w => Tryz.bits_LeadingZeros64 (limb y (nl y - 1) : Nat) w (by omega) (by have := limb_lt y (nl y - 1); omega)
  have hbl := (bitLen_spec (limb_lt y (nl y - 1)) htop).2.2.2
  rw [Int.toNat_natCast, show (64 : Int) - (Lib.bitLen (limb y (nl y - 1)) : Int) = (s : Nat) by omega] at hlz
  obtain ⟨hX1, hX2⟩ := over_start hxn (show 0 < nl y by omega) hmn hs64 hP2
  have HC := hid (fun w' (h : Up w w') => cmp_am (ha.up h) (hb.up h) (by omega) (by omega))
  have hL1 := fun w' (h : Up w w') => left_row (hb.up h) (by omega) hy0 hs64
  have hL2 := fun w' (h : Up w w') => left_row (ha.up h) (by omega) (by omega) hs64
  have hnP : nl (y * 2 ^ s) = nl y := by
    have h1 := nl_left hy0 hs64
    have h2 := nl_le hP1
    omega
  have hnX := nl_left (x := x) (by omega) hs64
  obtain ⟨bb, rfl, hbb, hcb⟩ := hcb0 (nl y - 1) (by omega)
  rw [hnP] at hL1
  have hlx := limb_lt y (nl y - 1)
  clear hcb0 hca0 hxn hyn htop hbl hs hnP
  obtain ⟨L, hL⟩ : ∃ L, nl (x * 2 ^ s) = L := ⟨_, rfl⟩
  rw [hL] at hL2 hnX
  obtain ⟨n, hn⟩ : ∃ n, nl x = n := ⟨_, rfl⟩
  obtain ⟨m, hm⟩ : ∃ m, nl y = m := ⟨_, rfl⟩
  rw [hn] at hL2 hnX hX1 hX2 hmn hx hca1 HC ⊢
  rw [hm] at hL1 hP1 hP2 hX2 hmn hy hlz hcb hlx hcb1 HC ⊢
  have HLn := hid hL
  clear hn hm hL
  obtain ⟨m1, hm1⟩ : ∃ m1, m = m1 + 1 := ⟨m - 1, by omega⟩
  obtain ⟨m2, hm2⟩ : ∃ m2, m1 = m2 + 1 := ⟨m1 - 1, by omega⟩
  rw [show m - 1 = m1 by omega] at hlz hcb hlx hP2
  obtain ⟨P, hP⟩ : ∃ P, y * 2 ^ s = P := ⟨_, rfl⟩
  obtain ⟨X2, hX2e⟩ : ∃ X2, x * 2 ^ s = X2 := ⟨_, rfl⟩
  rw [hP] at hL1 hP1 hP2 hX2
  rw [hX2e] at hL2 hX1 hX2
  have HP := hid hP
  have HX2 := hid hX2e
  have HX1 := hid hX1
  have HXK := hid hX2
  have HP1 := hid hP1
  have HP2 := hid hP2
  have HL1 := hid hL1
  have HL2 := hid hL2
  have HLZ := hid hlz
  have HCB := hid hcb
  have Hy0 := hid hy0
  have d1 : decide (ordZ x y < 0) = false := by
    unfold ordZ
    rw [if_neg (by omega)]
    split <;> simp
  have d2 : ((m : Int) == 1) = false := by simp; omega
  have em1 : IntKind.i64.wrap ((m : Int) - 1) = (m1 : Nat) := by rw [IntWalk.i64_in _ (by omega)]; omega
  have b1 : (m1 : Int) < (m : Nat) := by omega
  have b2 : m1 < m := by omega
  have Hm1 := hid hm1
  have Hm2 := hid hm2
  clear hL1 hL2 hlz hP hX2e hX1 hX2 hP1 hP2 hcb ha hb hxy hy0 hm1 hm2
  generalize limb y m1 = top at *
  go_enter Tryz.func119, Tryz.ntmps119
  go_wp2_with (first | (go_at_call 86; (with_reducible refine (HC.out _ gUp).mono ?_); rintro e wC ⟨rfl, huC⟩; have hct := HCB.out _ huC) | (go_at_call 137; (with_reducible refine (HLZ.out _).mono ?_); rintro e wC ⟨rfl, rfl⟩) | (go_at_call 87; (first | ((with_reducible refine (HL1.out _ gUp).mono ?_); rintro e wV ⟨huV, v, rfl, V, rfl, hV, gV⟩) | ((with_reducible refine (HL2.out _ gUp).mono ?_); rintro e wU ⟨huU, u, rfl, U, rfl, hU, gU⟩))))
  have l0 := huC.size
  have l1 := gV.lt
  have l2 := gU.lt
  have gQ := (gV.up huU).congr hV
  have gP := gU.congr hU
  have gB : Below w.heap.size w wU := gUp
  have Hs64 := hid hs64
  clear hct hV gV hU gU huC huV huU HL1 HL2 HC HLZ HCB d1 d2 b1 b2 hlx hs64 hbb em1
  generalize wC.heap.size = q at *
  generalize wV.heap.size = p at *
  have HnX := hid hnX
  have Hmn := hid hmn
  clear hnX hmn
  have hz0 : n = L → limb X2 n = 0 := fun h => limb_nl (by rw [← HX2.out, HLn.out, h]; exact Nat.le_refl _)
  have Hz0 := hid hz0
  clear hz0 HLn
  go_loopw [12] (fun tu wr => ∃ (L : Nat), n ≤ L ∧ L ≤ n + 1 ∧ tu = .slice (some ⟨p, 0, none⟩) L (n + 1) ∧ (n = L → limb X2 n = 0) ∧ Row wr q 31 (m + 1) (limb P) ∧ Row wr p 31 (n + 1) (limb X2) ∧ Below w.heap.size w wr)
    (fun tu _ => n + 1 - slen tu)
  case atStart => exact ⟨L, HnX.out.1, HnX.out.2, rfl, Hz0.out, gQ, gP, gB⟩
  case round =>
    clear gQ gP gB l2 Hz0 HnX
    obtain ⟨L, hl1, hl2, rfl, hz0, gQ, gP, gB⟩ := hrel
    have en1 : IntKind.i64.wrap ((n : Int) + 1) = (n : Int) + 1 := IntWalk.i64_in _ (by omega)
    have lP := gP.lt
    rcases (show n = L ∨ n + 1 = L by omega) with rfl | rfl
    · have hz := hz0 rfl
      clear hz0
      go_wp2_with (first | ((with_reducible apply app0P (f := limb X2)); exact rfl; exact rfl; exact gP.up (Up.alloc _ _); simp; omega; exact hz))
      go_roundw
      case rel => exact ⟨n + 1, by omega, by omega, rfl, fun h => by omega, (gQ.up (Up.alloc _ _)).row_other _ (by omega), (gP.up (Up.alloc _ _)).setRow _, below_setRow (below_up gB (Up.alloc _ _)) (by omega) _⟩
      case measure => show n + 1 - (n + 1) < n + 1 - n; omega
    · clear hz0 hl1 hl2
      have hmn := Hmn.out
      obtain ⟨K, hK⟩ : ∃ K, n - m + 1 = K := ⟨_, rfl⟩
      have eK1 : IntKind.i64.wrap ((n : Int) - (m : Int)) = (K : Int) - 1 := by rw [IntWalk.i64_in _ (by omega)]; omega
      have eK2 : IntKind.i64.wrap (K : Int) = (K : Nat) := IntWalk.i64_in _ (by omega)
      have hxk := HXK.out
      rw [hK] at hxk
      have HXK := hid hxk
      have HK := hid hK
      clear hmn hxk hK
      go_wp2_with (first | ((with_reducible apply mkP (n := K)); exact rfl; (first | rfl | omega); (have := HK.out; omega)))
      have gT : Row (wr.alloc (.cells (cells K (fun _ => 0)) 31)) wr.heap.size 31 K (fun _ => 0) := row_newc _ _ _ rfl
      refine wp_worldD (fun wd => Row wd q 31 (m + 1) (limb P) ∧ Row wd p 31 (n + 1) (limb X2) ∧ Row wd wr.heap.size 31 K (fun _ => 0) ∧ Below w.heap.size w wd) ⟨gQ.up (Up.alloc _ _), gP.up (Up.alloc _ _), gT, below_up gB (Up.alloc _ _)⟩ (fun w0 hD => ?_)
      clear gQ gP gT gB
      obtain ⟨gQ, gP, gT, gB⟩ := hD
      generalize wr.heap.size = t at *
      have hPm : sumL (limb P) m = P := by rw [sumL_limb, Nat.mod_eq_of_lt HP1.out]
      have HPm := hid hPm
      have hP0 : 0 < P := by have := HP2.out; have := bp_pos m1; omega
      have HP0 := hid hP0
      clear hPm hP0 eK1 eK2 en1
      go_loopw [14] (fun ti wr => ∃ (k : Nat) (S T : Nat → Nat), k ≤ K ∧ ti = .int .i64 ((k : Int) - 1) ∧ (∀ j, j < n + 1 → S j < 18446744073709551616) ∧ (∀ j, j < K → T j < 18446744073709551616) ∧ (∀ j, j < k → T j = 0) ∧ X2 = sumL T K * P + sumL S (n + 1) ∧ sumL S (n + 1) < P * bp k ∧
          Row wr q 31 (m + 1) (limb P) ∧ Row wr p 31 (n + 1) S ∧ Row wr t 31 K T ∧ Below w.heap.size w wr)
        (fun ti _ => (intOf ti + 1).toNat)
      case atStart =>
        refine ⟨K, limb X2, fun _ => 0, Nat.le_refl _, rfl, fun j _ => limb_lt _ j, fun _ _ => by simp, fun _ _ => rfl, ?_, ?_, gQ, gP, gT, gB⟩
        · rw [sumL_zeros, sumL_limb, Nat.mod_eq_of_lt HX1.out]; omega
        · rw [sumL_limb, Nat.mod_eq_of_lt HX1.out]; exact HXK.out
      case round =>
        clear gQ gP gT gB
        obtain ⟨k, S, T, hk, rfl, hS, hT, hT0, hX, hR, gQ, gP, gT, gB⟩ := hrel
        have HS := hid hS
        have HT := hid hT
        have HT0 := hid hT0
        have HX := hid hX
        have HR := hid hR
        clear hS hT hT0 hX hR
        rcases Nat.eq_zero_or_pos k with hk0 | hk0
        · subst hk0
          have hE : sumL T K = x / y ∧ sumL S (n + 1) / 2 ^ s = x % y := by
            have h1 := HX.out
            have h2 := HR.out
            rw [bp_zero, Nat.mul_one] at h2
            rw [← HX2.out, ← HP.out] at h1
            rw [← HP.out] at h2
            exact long_end Hy0.out h1 h2
          have hS2 : sumL S (n + 1) = sumL S m := by
            have h2 := HR.out
            rw [bp_zero, Nat.mul_one] at h2
            have hmn := Hmn.out
            exact sum_cut (by omega) (zero_above (k := m) (Nat.lt_trans h2 HP1.out))
          rw [hS2] at hE
          have HT1 := hid (fun w' (h : Row w' t 31 K T) => trim_row t K K K T w' h (Nat.le_refl _) (Nat.le_refl _) (by have := HK.out; omega))
          have hmn := Hmn.out
          have HT2 := hid (fun w' (h : Row w' p 31 (n + 1) S) => trim_row p m (n + 1) (n + 1) S w' h (by omega) (by omega) (by omega))
          have HA2 := hid (fun w' (h : Row w' p 31 (n + 1) S) => am_row (n := m) (c := n + 1) h (by omega) (by omega) (fun i hi => HS.out i (by omega)))
          have HA1 := hid (fun w' (h : Row w' t 31 K T) => am_row (n := K) (c := K) h (Nat.le_refl _) (Nat.le_refl _) HT.out)
          have HnS := hid (nl_sum (S := S) (n := m) fun i hi => HS.out i (by omega))
          have HE := hid hE
          have bs1 : (m : Int) ≤ (n : Int) + 1 := by omega
          have hs6 := Hs64.out
          clear hE hS2 hmn
          go_wp2_with fail
          refine opU (S := (fun wq => Row wq p 31 (n + 1) S ∧ Row wq t 31 K T ∧ Below w.heap.size w wq)) (req := (fun _ => true)) (fun _ _ h hu => ⟨(h.1).up hu, (h.2.1).up hu, below_up (h.2.2) hu⟩) ⟨gRow, gRow, gUp⟩ (fun wS hSS hSu => ?_)
          have ⟨hS1, hS2, hSB⟩ := hSS
          clear gQ gP gT gB
          refine tkP 0 (some 238) hSu ?_
          refine tkC 1 (some 239) rfl hSu hSS ?_ (hy := fun w' hSw => (HT1.out _ hSw.2.1))
          refine tkP 2 (some 240) hSu ?_
          refine tkP 3 (some 241) hSu ?_
          refine tkP 4 (some 242) hSu ?_
          refine tkC 5 (some 243) rfl hSu hSS ?_ (hy := fun w' hSw => (HT2.out _ hSw.1))
          refine tkP 6 (some 244) hSu ?_
          refine wpAnyU_callE (i := 7) (d := (some 245)) rfl rfl (by kernel_rfl) (by rfl) hSu.out (fun w' => by go_simp) (fun w' hw' => right_am (HA2.out _ (hS1.up hw')) (by rw [HnS.out]; exact Nat.lt_of_le_of_lt (lenL_le S m) (by omega)) hs6) fun vR wR hwR hRR => ?_
          try simp only [Act.put, pu1, pu2, pu3]
          obtain ⟨a1, c1, rfl⟩ := hRR.shape
          refine tkP 8 (some 4) hSu ?_
          refine tkP 9 (some 5) hSu ?_
          refine wpAnyU_done (by kernel_rfl) (fun wF huE => ?_) _
          have gA1 := HA1.out _ ((hS2.up hwR).up huE)
          have gA2 := hRR.up huE
          have gB := below_up (below_up hSB hwR) huE
          clear hS1 hS2 hSB hSS hwR hRR huE
          go_wp2_with fail
          go_ret2
          refine ⟨gB, _, _, _, _, _, _, rfl, ?_, ?_⟩
          · rw [← HE.out.1]; exact gA1
          · rw [← HE.out.2]; exact gA2
        · obtain ⟨i, rfl⟩ : ∃ i, k = i + 1 := ⟨k - 1, by omega⟩
          rw [show ((i + 1 : Nat) : Int) - 1 = (i : Nat) by omega]
          have hmn := Hmn.out
          have hkk := HK.out
          have hm1 := Hm1.out
          have hm2 := Hm2.out
          have him : i + m < n + 1 := by omega
          have hiK : i < K := by omega
          have him1 : i + m1 < n + 1 := by omega
          have him2 : i + m2 < n + 1 := by omega
          have e1 : IntKind.i64.wrap ((i : Int) + (m : Int)) = (i : Int) + (m : Int) := IntWalk.i64_in _ (by omega)
          have e2 : IntKind.i64.wrap ((i : Int) + (m : Int) - 1) = (i : Int) + (m1 : Int) := by rw [IntWalk.i64_in _ (by omega)]; omega
          have e3 : IntKind.i64.wrap ((i : Int) + (m : Int) - 2) = (i : Int) + (m2 : Int) := by rw [IntWalk.i64_in _ (by omega)]; omega
          have e4 : IntKind.i64.wrap ((m : Int) - 1) = (m1 : Int) := by rw [IntWalk.i64_in _ (by omega)]; omega
          have e5 : IntKind.i64.wrap ((m : Int) - 2) = (m2 : Int) := by rw [IntWalk.i64_in _ (by omega)]; omega
          have f1 : ((i : Int) + (m : Int)).toNat = i + m := by omega
          have f2 : ((i : Int) + (m1 : Int)).toNat = i + m1 := by omega
          have f3 : ((i : Int) + (m2 : Int)).toNat = i + m2 := by omega
          have j1 : (i : Int) + (m : Int) < (n : Int) + 1 := by omega
          have j2 : (0 : Int) ≤ (i : Int) + (m : Int) := by omega
          have j3 : (i : Int) + (m1 : Int) < (n : Int) + 1 := by omega
          have j4 : (0 : Int) ≤ (i : Int) + (m1 : Int) := by omega
          have j5 : (i : Int) + (m2 : Int) < (n : Int) + 1 := by omega
          have j6 : (0 : Int) ≤ (i : Int) + (m2 : Int) := by omega
          have j7 : (m1 : Int) < (m : Int) := by omega
          have j8 : (m2 : Int) < (m : Int) := by omega
          have j9 : m1 < m := by omega
          have jA : m2 < m := by omega
          have HG3 := hid (fun w' => guess3_any (S (i + m)) (S (i + m1)) (S (i + m2)) (limb P m1) (limb P m2) (HS.out _ him) (HS.out _ him1) (HS.out _ him2) (limb_lt _ _) (limb_lt _ _) w')
          have c1 := gP.cell (i + m) him
          have c2 := gP.cell (i + m1) him1
          have c3 := gP.cell (i + m2) him2
          have c4 := gQ.cell m1 (by omega)
          have c5 := gQ.cell m2 (by omega)
          clear hmn hkk hm1 hm2
          go_wp2_with fail
          refine opU (S := (fun wq => Row wq q 31 (m + 1) (limb P) ∧ Row wq p 31 (n + 1) S ∧ Row wq t 31 K T ∧ wq.cell? ⟨p, i + m, none⟩ = some (.int .u64 (S (i + m) : Nat)) ∧ wq.cell? ⟨p, i + m1, none⟩ = some (.int .u64 (S (i + m1) : Nat)) ∧ wq.cell? ⟨p, i + m2, none⟩ = some (.int .u64 (S (i + m2) : Nat)) ∧ wq.cell? ⟨q, m1, none⟩ = some (.int .u64 (limb P m1 : Nat)) ∧ wq.cell? ⟨q, m2, none⟩ = some (.int .u64 (limb P m2 : Nat)) ∧ Below w.heap.size w wq)) (req := (fun _ => true)) (fun _ _ h hu => ⟨(h.1).up hu, (h.2.1).up hu, (h.2.2.1).up hu, hu.cell (h.2.2.2.1), hu.cell (h.2.2.2.2.1), hu.cell (h.2.2.2.2.2.1), hu.cell (h.2.2.2.2.2.2.1), hu.cell (h.2.2.2.2.2.2.2.1), below_up (h.2.2.2.2.2.2.2.2) hu⟩) ⟨gRow, gRow, gRow, (by first | assumption | (apply Blk.cell; exact gBlk; exact rfl)), (by first | assumption | (apply Blk.cell; exact gBlk; exact rfl)), (by first | assumption | (apply Blk.cell; exact gBlk; exact rfl)), (by first | assumption | (apply Blk.cell; exact gBlk; exact rfl)), (by first | assumption | (apply Blk.cell; exact gBlk; exact rfl)), gUp⟩ (fun wS hSS hSu => ?_)
          have ⟨hS1, hS2, hS3, hS4, hS5, hS6, hS7, hS8, hSB⟩ := hSS
          clear gQ gP gT gB c1 c2 c3 c4 c5
          refine tkP 0 (some 98) hSu ?_
          refine tkP 1 (some 99) hSu ?_
          refine tkP 2 (some 100) hSu ?_
          refine tkP 3 (some 101) hSu ?_
          refine tkP 4 (some 102) hSu ?_
          refine tkT 5 (some 103) rfl hSu hSS ?_ (hy := fun w' hSw => by ((try dsimp only at hSw); (try obtain ⟨_, _, _, _, _, _, _, _, _⟩ := hSw); go_simp; (try exact rfl)))
          refine tkP 6 (some 104) hSu ?_
          refine tkP 7 (some 105) hSu ?_
          refine tkP 8 (some 106) hSu ?_
          refine tkP 9 (some 107) hSu ?_
          refine tkP 10 (some 108) hSu ?_
          refine tkP 11 (some 109) hSu ?_
          refine tkT 12 (some 110) rfl hSu hSS ?_ (hy := fun w' hSw => by ((try dsimp only at hSw); (try obtain ⟨_, _, _, _, _, _, _, _, _⟩ := hSw); go_simp; (try exact rfl)))
          refine tkP 13 (some 111) hSu ?_
          refine tkP 14 (some 112) hSu ?_
          refine tkP 15 (some 113) hSu ?_
          refine tkP 16 (some 114) hSu ?_
          refine tkP 17 (some 115) hSu ?_
          refine tkP 18 (some 116) hSu ?_
          refine tkT 19 (some 117) rfl hSu hSS ?_ (hy := fun w' hSw => by ((try dsimp only at hSw); (try obtain ⟨_, _, _, _, _, _, _, _, _⟩ := hSw); go_simp; (try exact rfl)))
          refine tkP 20 (some 118) hSu ?_
          refine tkP 21 (some 119) hSu ?_
          refine tkP 22 (some 120) hSu ?_
          refine tkP 23 (some 121) hSu ?_
          refine tkT 24 (some 122) rfl hSu hSS ?_ (hy := fun w' hSw => by ((try dsimp only at hSw); (try obtain ⟨_, _, _, _, _, _, _, _, _⟩ := hSw); go_simp; (try exact rfl)))
          refine tkP 25 (some 123) hSu ?_
          refine tkP 26 (some 124) hSu ?_
          refine tkP 27 (some 125) hSu ?_
          refine tkP 28 (some 126) hSu ?_
          refine tkT 29 (some 127) rfl hSu hSS ?_ (hy := fun w' hSw => by ((try dsimp only at hSw); (try obtain ⟨_, _, _, _, _, _, _, _, _⟩ := hSw); go_simp; (try exact rfl)))
          refine wpAnyU_callE (i := 30) (d := (some 128)) rfl rfl (by kernel_rfl) (by rfl) hSu.out (fun w' => by go_simp) (fun w' hw' => (HG3.out _)) fun vG wG hwG hRG => ?_
          try simp only [Act.put, pu1, pu2, pu3]
          obtain ⟨g, rfl, hgl, hG⟩ := hRG
          refine tkP 31 (some 15) hSu ?_
          refine wpAnyU_done (by kernel_rfl) (fun wF huE => ?_) _
          have gQ := (hS1.up hwG).up huE
          have gP := (hS2.up hwG).up huE
          have gT := (hS3.up hwG).up huE
          have gB := below_up (below_up hSB hwG) huE
          have Hgl := hid hgl
          have HG := hid hG
          clear hS1 hS2 hS3 hS4 hS5 hS6 hS7 hS8 hSB hSS hwG huE hgl hG HG3 e2 e3 e4 e5 f2 f3 j3 j4 j5 j6 j7 j8
          go_wp2_with fail
          obtain ⟨W, hW⟩ : ∃ W, sumL (fun j => S (i + j)) (m + 1) = W := ⟨_, rfl⟩
          have HW := hid hW
          have hq0 : W / P ≤ g := over_guess Hm1.out Hm2.out him HS.out HPm.out HP0.out HR.out hW HG.out
          have Hq0 := hid hq0
          clear hW hq0 HG
          go_loopw [16, 17, 18] (fun tc tb ti wr => ∃ (k c b : Nat) (S1 : Nat → Nat), k ≤ m ∧ tc = .int .u64 (c : Nat) ∧ tb = .int .u64 (b : Nat) ∧ ti = .int .i64 (k : Nat) ∧ c < 18446744073709551616 ∧ b ≤ 1 ∧
              sumL (fun j => S1 (i + j)) k + g * sumL (limb P) k = sumL (fun j => S (i + j)) k + (b + c) * bp k ∧ (∀ j, j < i ∨ i + k ≤ j → S1 j = S j) ∧ (∀ j, j < n + 1 → S1 j < 18446744073709551616) ∧
              Row wr q 31 (m + 1) (limb P) ∧ Row wr p 31 (n + 1) S1 ∧ Row wr t 31 K T ∧ Below w.heap.size w wr)
            (fun _ _ ti _ => m - (intOf ti).toNat)
          case atStart => exact ⟨0, 0, 0, S, by omega, rfl, rfl, rfl, by omega, by omega, by simp [sumL_zero], fun _ _ => rfl, HS.out, gQ, gP, gT, gB⟩
          case round =>
            clear gQ gP gT gB
            obtain ⟨k, c, b, S1, hk2, rfl, rfl, rfl, hc, hb, hsum, ho, hl, gQ, gP, gT, gB⟩ := hrel
            have Hsum := hid hsum
            have Ho := hid ho
            have Hl := hid hl
            clear hsum ho hl
            have hgl := Hgl.out
            by_cases hlt : k < m
            · have hVk := limb_lt P k
              have hik : i + k < n + 1 := by omega
              have e2 : IntKind.i64.wrap ((i : Int) + (k : Int)) = (i : Int) + (k : Int) := IntWalk.i64_in _ (by omega)
              have e3 : IntKind.i64.wrap ((k : Int) + 1) = (k : Int) + 1 := IntWalk.i64_in _ (by omega)
              have f2 : ((i : Int) + (k : Int)).toNat = i + k := by omega
              have j3 : (i : Int) + (k : Int) < (n : Int) + 1 := by omega
              have j4 : (0 : Int) ≤ (i : Int) + (k : Int) := by omega
              have hcy := gQ.cell k (by omega)
              have hcx := gP.cell (i + k) hik
              have hfx := gP.frozen (i + k)
              obtain ⟨h, eh⟩ : ∃ h, h = g * limb P k / 18446744073709551616 := ⟨_, rfl⟩
              obtain ⟨l, el⟩ : ∃ l, l = g * limb P k % 18446744073709551616 := ⟨_, rfl⟩
              have HM : Hid (∀ w, Calls Tryz.prog 91 #[.int .u64 (g : Nat), .int .u64 (limb P k : Nat)] w fun e w' => e = .returned (.tuple #[.int .u64 (h : Nat), .int .u64 (l : Nat)]) ∧ w' = w) := hid (fun w => (Tryz.bits_Mul64 g (limb P k) hgl hVk w).mono (by rintro e w' ⟨rfl, rfl⟩; exact ⟨by rw [eh, el], rfl⟩))
              obtain ⟨l2, c2, HA, e6, e7⟩ : ∃ r c' : Nat, (∀ w, (callFunc 88 #[.int .u64 (l : Nat), .int .u64 (c : Nat), .int .u64 0]).run Tryz.prog w = .ok (.value (.tuple #[.int .u64 (r : Nat), .int .u64 (c' : Nat)])) w) ∧
                r = (l + c + 0) % 18446744073709551616 ∧ c' = (l + c + 0) / 18446744073709551616 := ⟨_, _, run_add l c 0 (by omega), rfl, rfl⟩
              obtain ⟨g1, g2, g3, g4, g5, g6⟩ := mul_step hgl hVk hc eh el e6 e7
              obtain ⟨cn, ecn⟩ : ∃ cn, cn = h + c2 := ⟨_, rfl⟩
              rw [← ecn] at g1 g2
              have w1 : IntKind.u64.wrap ((h : Int) + c2) = (cn : Nat) := by rw [IntKind.wrap_u64]; omega
              have HG2 := hid g2
              clear eh el e6 e7 g2 ecn
              have hSk := Hl.out (i + k) hik
              obtain ⟨r, b', HSub, hr, hrl, hb1⟩ : ∃ r b' : Nat, (∀ w, (callFunc 130 #[.int .u64 (S1 (i + k) : Nat), .int .u64 (l2 : Nat), .int .u64 (b : Nat)]).run Tryz.prog w = .ok (.value (.tuple #[.int .u64 (r : Nat), .int .u64 (b' : Nat)])) w) ∧
                  Hid (r + l2 + b = S1 (i + k) + b' * 18446744073709551616) ∧ r < 18446744073709551616 ∧ b' ≤ 1 :=
                ⟨_, _, run_sub (S1 (i + k)) l2 b hb, hid (by split <;> omega), Nat.mod_lt _ (by decide), by split <;> omega⟩
              have gP1 := gP.set (i + k) r
              have gQ1 := gQ.other ⟨p, i + k, none⟩ (.int .u64 (r : Nat)) (show q ≠ p by omega)
              have gT1 := gT.other ⟨p, i + k, none⟩ (.int .u64 (r : Nat)) (show t ≠ p by omega)
              have gB1 := gB.setCell (p := ⟨p, i + k, none⟩) (show w.heap.size ≤ p by omega) (.int .u64 (r : Nat))
              go_wp2_with (first | (go_at_call 91; (with_reducible refine (HM.out _).mono ?_); rintro e wM ⟨rfl, rfl⟩))
              clear e1 f1 j1 j2 e2 e3 f2 j3 j4 w1 hcy hcx hfx HM HA HSub gQ gP gT gB
              go_roundw
              case rel =>
                refine ⟨k + 1, cn, b', upd S1 (i + k) r, by omega, rfl, rfl, by go_num, g1, hb1, ?_, fun j hj => by rw [upd_other _ _ _ (by omega)]; exact Ho.out j (by omega), upd_lt Hl.out hrl, gQ1, gP1, gT1, gB1⟩
                rw [sum_shift_upd, sumL_succ (limb P), sumL_succ (fun j => S (i + j)), bp_succ, Nat.mul_add, ← Nat.mul_assoc]
                have h2 := hr.out
                rw [Ho.out (i + k) (by omega)] at h2
                exact off_step Hsum.out HG2.out h2
              case measure => simp [intOf] <;> omega
            · obtain rfl : m = k := by omega
              clear hlt
              have hcx := gP.cell (i + m) him
              have hfx := gP.frozen (i + m)
              have hSk := Hl.out (i + m) him
              obtain ⟨r, b', HSub, hr, hrl, hb1⟩ : ∃ r b' : Nat, (∀ w, (callFunc 130 #[.int .u64 (S1 (i + m) : Nat), .int .u64 (c : Nat), .int .u64 (b : Nat)]).run Tryz.prog w = .ok (.value (.tuple #[.int .u64 (r : Nat), .int .u64 (b' : Nat)])) w) ∧
                  Hid (r + c + b = S1 (i + m) + b' * 18446744073709551616) ∧ r < 18446744073709551616 ∧ b' ≤ 1 :=
                ⟨_, _, run_sub (S1 (i + m)) c b hb, hid (by split <;> omega), Nat.mod_lt _ (by decide), by split <;> omega⟩
              have gP1 := gP.set (i + m) r
              have gQ1 := gQ.other ⟨p, i + m, none⟩ (.int .u64 (r : Nat)) (show q ≠ p by omega)
              have gT1 := gT.other ⟨p, i + m, none⟩ (.int .u64 (r : Nat)) (show t ≠ p by omega)
              have gB1 := gB.setCell (p := ⟨p, i + m, none⟩) (show w.heap.size ≤ p by omega) (.int .u64 (r : Nat))
              have he : sumL (fun j => upd S1 (i + m) r (i + j)) (m + 1) + g * P = W + b' * bp (m + 1) := by
                have h2 := hr.out
                rw [Ho.out (i + m) (by omega)] at h2
                have h3 := off_last Hsum.out h2
                rw [HPm.out] at h3
                have h4 := HW.out
                rw [sumL_succ] at h4
                rw [sum_shift_upd, bp_succ, ← h4]
                exact h3
              have ho : ∀ j, j < i ∨ i + m < j → upd S1 (i + m) r j = S j := fun j hj => by rw [upd_other _ _ _ (by omega)]; exact Ho.out j (by omega)
              have He := hid he
              have Ho2 := hid ho
              have Hl2 := hid (upd_lt (k := i + m) Hl.out hrl)
              clear he ho gQ gP gT gB hr Hsum Ho
              go_wp2_with fail
              clear hcx hfx HSub hSk Hl
              generalize upd S1 (i + m) r = S2 at *
              go_loopw [15, 17] (fun tg tb wr => ∃ (g b : Nat) (S1 : Nat → Nat), tg = .int .u64 (g : Nat) ∧ tb = .int .u64 (b : Nat) ∧ b ≤ 1 ∧ g < 18446744073709551616 ∧ W / P ≤ g ∧ sumL (fun j => S1 (i + j)) (m + 1) + g * P = W + b * bp (m + 1) ∧ (∀ j, j < i ∨ i + m < j → S1 j = S j) ∧ (∀ j, j < n + 1 → S1 j < 18446744073709551616) ∧
                  Row wr q 31 (m + 1) (limb P) ∧ Row wr p 31 (n + 1) S1 ∧ Row wr t 31 K T ∧ Below w.heap.size w wr)
                (fun tg _ _ => (intOf tg).toNat)
              case atStart => exact ⟨g, b', S2, rfl, rfl, hb1, Hgl.out, Hq0.out, He.out, Ho2.out, Hl2.out, gQ1, gP1, gT1, gB1⟩
              case round =>
                clear gQ1 gP1 gT1 gB1 He Ho2 Hl2 Hgl hgl Hq0 hb1 hrl
                obtain ⟨g, b, S1, rfl, rfl, hb, hgl, hq0, he, ho, hl, gQ, gP, gT, gB⟩ := hrel
                have He := hid he
                have Ho := hid ho
                have Hl := hid hl
                have Hq0 := hid hq0
                have Hgl := hid hgl
                clear he ho hl hq0 hgl
                rcases (show b = 0 ∨ b = 1 by omega) with rfl | rfl
                · have he := He.out
                  rw [Nat.zero_mul, Nat.add_zero] at he
                  obtain ⟨hlt, hgq⟩ := round_end he Hq0.out HP0.out
                  have hR3 : sumL S (n + 1) < bp (i + m + 1) := by
                    have h0 := HR.out
                    have h1 := HP1.out
                    have h2 : P * bp (i + 1) ≤ bp m * bp (i + 1) := Nat.mul_le_mul_right _ (Nat.le_of_lt h1)
                    rw [← bp_add, show m + (i + 1) = i + m + 1 by omega] at h2
                    exact Nat.lt_of_lt_of_le h0 h2
                  obtain ⟨hX1, hX3⟩ := over_more him hiK HS.out HX.out (HT0.out i (by omega)) hR3 HW.out rfl Ho.out he hlt
                  have HX1' := hid hX1
                  have HX3 := hid hX3
                  have e7 : IntKind.i64.wrap ((i : Int) - 1) = (i : Int) - 1 := IntWalk.i64_in _ (by omega)
                  have hi16 : (i : Int) < (K : Int) := by omega
                  have hct := gT.cell i hiK
                  have hft := gT.frozen i
                  have gT1 := gT.set i g
                  have gP1 := gP.other ⟨t, i, none⟩ (.int .u64 (g : Nat)) (show p ≠ t by omega)
                  have gQ1 := gQ.other ⟨t, i, none⟩ (.int .u64 (g : Nat)) (show q ≠ t by omega)
                  have gB1 := gB.setCell (p := ⟨t, i, none⟩) (show w.heap.size ≤ t by omega) (.int .u64 (g : Nat))
                  clear he hlt hgq hR3 hX1 hX3 gQ gP gT gB
                  go_wp2_with fail
                  clear e1 f1 j1 j2 e7 hi16 hct hft
                  go_roundw
                  case rel => exact ⟨i, S1, upd T i g, by omega, rfl, Hl.out, upd_lt HT.out Hgl.out, fun j hj => by rw [upd_other _ _ _ (by omega)]; exact HT0.out j (by omega), HX1'.out, HX3.out, gQ1, gP1, gT1, gB1⟩
                  case measure => simp [intOf] <;> omega
                · rw [show ((1 : Nat) : Int) = (1 : Int) from rfl]
                  have he := He.out
                  rw [Nat.one_mul] at he
                  have hW1 := sumL_lt (f := fun j => S1 (i + j)) (k := m + 1) fun j hj => Hl.out _ (by omega)
                  obtain ⟨hg1, hq1⟩ := round_more he hW1 HP0.out
                  obtain ⟨G, hG⟩ : ∃ G, g - 1 = G := ⟨_, rfl⟩
                  rw [hG] at hq1
                  have HGg := hid hG
                  have HGq := hid hq1
                  have HG1 := hid hg1
                  have hgl := Hgl.out
                  have eg : IntKind.u64.wrap ((g : Int) - 1) = (G : Nat) := by rw [IntKind.wrap_u64]; omega
                  have Hhe := hid he
                  clear he hW1 hg1 hq1 hG hgl He
                  go_wp2_with fail
                  clear eg
                  go_loopw [22, 23] (fun tc ti wr => ∃ (k c : Nat) (S2 : Nat → Nat), k ≤ m ∧ tc = .int .u64 (c : Nat) ∧ ti = .int .i64 (k : Nat) ∧ c ≤ 1 ∧ sumL (fun j => S2 (i + j)) k + c * bp k = sumL (fun j => S1 (i + j)) k + sumL (limb P) k ∧ (∀ j, j < i ∨ i + k ≤ j → S2 j = S1 j) ∧ (∀ j, j < n + 1 → S2 j < 18446744073709551616) ∧
                      Row wr q 31 (m + 1) (limb P) ∧ Row wr p 31 (n + 1) S2 ∧ Row wr t 31 K T ∧ Below w.heap.size w wr)
                    (fun _ ti _ => m - (intOf ti).toNat)
                  case atStart => exact ⟨0, 0, S1, by omega, rfl, rfl, by omega, by simp [sumL_zero], fun _ _ => rfl, Hl.out, gQ, gP, gT, gB⟩
                  case round =>
                    clear gQ gP gT gB
                    obtain ⟨k, c, S2, hk3, rfl, rfl, hc, hsum, ho2, hl2, gQ, gP, gT, gB⟩ := hrel
                    have Hsum := hid hsum
                    have Ho2 := hid ho2
                    have Hl2 := hid hl2
                    clear hsum ho2 hl2
                    by_cases hlt : k < m
                    · have hik : i + k < n + 1 := by omega
                      have e2 : IntKind.i64.wrap ((i : Int) + (k : Int)) = (i : Int) + (k : Int) := IntWalk.i64_in _ (by omega)
                      have e3 : IntKind.i64.wrap ((k : Int) + 1) = (k : Int) + 1 := IntWalk.i64_in _ (by omega)
                      have f2 : ((i : Int) + (k : Int)).toNat = i + k := by omega
                      have j3 : (i : Int) + (k : Int) < (n : Int) + 1 := by omega
                      have j4 : (0 : Int) ≤ (i : Int) + (k : Int) := by omega
                      have j5 : (k : Int) < (m : Int) := by omega
                      have hcy := gQ.cell k (by omega)
                      have hcx := gP.cell (i + k) hik
                      obtain ⟨r, c', hadd, hr, hrl, hc1⟩ : ∃ r c' : Nat, (∀ w, (callFunc 88 #[.int .u64 (S2 (i + k) : Nat), .int .u64 (limb P k : Nat), .int .u64 (c : Nat)]).run Tryz.prog w = .ok (.value (.tuple #[.int .u64 (r : Nat), .int .u64 (c' : Nat)])) w) ∧
                          Hid (r + c' * 18446744073709551616 = S2 (i + k) + limb P k + c) ∧ r < 18446744073709551616 ∧ c' ≤ 1 :=
                        ⟨_, _, run_add (S2 (i + k)) (limb P k) c hc, hid (by omega), Nat.mod_lt _ (by decide), by have := Hl2.out (i + k) hik; have := limb_lt P k; omega⟩
                      go_wp2_with fail
                      refine opU (S := (fun wq => Row wq q 31 (m + 1) (limb P) ∧ Row wq p 31 (n + 1) S2 ∧ Row wq t 31 K T ∧ wq.cell? ⟨p, i + k, none⟩ = some (.int .u64 (S2 (i + k) : Nat)) ∧ wq.cell? ⟨q, k, none⟩ = some (.int .u64 (limb P k : Nat)) ∧ Below w.heap.size w wq)) (req := (fun j => j != 20)) (fun _ _ h hu => ⟨(h.1).up hu, (h.2.1).up hu, (h.2.2.1).up hu, hu.cell (h.2.2.2.1), hu.cell (h.2.2.2.2.1), below_up (h.2.2.2.2.2) hu⟩) ⟨gRow, gRow, gRow, (by first | assumption | (apply Blk.cell; exact gBlk; exact rfl)), (by first | assumption | (apply Blk.cell; exact gBlk; exact rfl)), gUp⟩ (fun wS hSS hSu => ?_)
                      have ⟨hS1, hS2, hS3, hS4, hS5, hSB⟩ := hSS
                      clear hcx hcy gQ gP gT gB
                      refine tkP 0 (some 196) hSu ?_
                      refine tkP 1 (some 197) hSu ?_
                      refine tkP 2 (some 198) hSu ?_
                      refine tkP 3 (some 199) hSu ?_
                      refine tkP 4 (some 200) hSu ?_
                      refine tkP 5 (some 201) hSu ?_
                      refine tkP 6 (some 202) hSu ?_
                      refine tkP 7 (some 203) hSu ?_
                      refine tkP 8 (some 204) hSu ?_
                      refine tkT 9 (some 205) rfl hSu hSS ?_ (hy := fun w' hSw => by ((try dsimp only at hSw); (try obtain ⟨_, _, _, _, _, _⟩ := hSw); go_simp; (try exact rfl)))
                      refine tkP 10 (some 206) hSu ?_
                      refine tkP 11 (some 207) hSu ?_
                      refine tkP 12 (some 208) hSu ?_
                      refine tkT 13 (some 209) rfl hSu hSS ?_ (hy := fun w' hSw => by ((try dsimp only at hSw); (try obtain ⟨_, _, _, _, _, _⟩ := hSw); go_simp; (try exact rfl)))
                      refine tkP 14 (some 210) hSu ?_
                      refine tkP 15 (some 211) hSu ?_
                      refine tkP 16 (some 195) hSu ?_
                      refine tkP 17 (some 212) hSu ?_
                      refine tkP 18 (some 213) hSu ?_
                      refine tkP 19 (some 214) hSu ?_
                      refine wpAnyU_one (i := 20) rfl (by kernel_rfl) (by rfl) fun w1 hw1 => ?_
                      have hcW := (hS2.up hw1).cell (i+k) (by omega)
                      have hfW := (hS2.up hw1).frozen (i+k)
                      go_simp
                      clear hcW hfW
                      refine tkP 21 (some 22) hSu ?_
                      refine wpAnyU_done (by kernel_rfl) (fun wF huE => ?_) _
                      have gQ := ((hS1.up hw1).other ⟨p, i + k, none⟩ (.int .u64 (r : Nat)) (show q ≠ p by omega)).up huE
                      have gP := ((hS2.up hw1).set (i + k) r).up huE
                      have gT := ((hS3.up hw1).other ⟨p, i + k, none⟩ (.int .u64 (r : Nat)) (show t ≠ p by omega)).up huE
                      have gB := below_up ((below_up hSB hw1).setCell (p := ⟨p, i + k, none⟩) (show w.heap.size ≤ p by omega) (.int .u64 (r : Nat))) huE
                      clear hS1 hS2 hS3 hS4 hS5 hSB hSS hw1 huE e2 f2 j3 j4 j5 hadd
                      go_wp2_with fail
                      clear e3 e1 f1 j1 j2
                      go_roundw
                      case rel =>
                        refine ⟨k + 1, c', upd S2 (i + k) r, by omega, rfl, by go_num, hc1, ?_, fun j hj => by rw [upd_other _ _ _ (by omega)]; exact Ho2.out j (by omega), upd_lt Hl2.out hrl, gQ, gP, gT, gB⟩
                        rw [sum_shift_upd, sumL_succ (limb P), sumL_succ (fun j => S1 (i + j)), bp_succ]
                        have h2 := hr.out
                        rw [Ho2.out (i + k) (by omega)] at h2
                        exact back_step Hsum.out h2
                      case measure => simp [intOf] <;> omega
                    · obtain rfl : m = k := by omega
                      clear hlt
                      have hcx := gP.cell (i + m) him
                      have hfx := gP.frozen (i + m)
                      obtain ⟨r, c', hadd, hr, hrl, hc1⟩ : ∃ r c' : Nat, (∀ w, (callFunc 88 #[.int .u64 (S2 (i + m) : Nat), .int .u64 0, .int .u64 (c : Nat)]).run Tryz.prog w = .ok (.value (.tuple #[.int .u64 (r : Nat), .int .u64 (c' : Nat)])) w) ∧
                          Hid (r + c' * 18446744073709551616 = S2 (i + m) + 0 + c) ∧ r < 18446744073709551616 ∧ c' ≤ 1 := by
                        have h := run_add (S2 (i + m)) 0 c hc
                        simp only [show ((0 : Nat) : Int) = 0 from rfl] at h
                        exact ⟨_, _, h, hid (by omega), Nat.mod_lt _ (by decide), by have := Hl2.out (i + m) him; omega⟩
                      have gP1 := gP.set (i + m) r
                      have gQ1 := gQ.other ⟨p, i + m, none⟩ (.int .u64 (r : Nat)) (show q ≠ p by omega)
                      have gT1 := gT.other ⟨p, i + m, none⟩ (.int .u64 (r : Nat)) (show t ≠ p by omega)
                      have gB1 := gB.setCell (p := ⟨p, i + m, none⟩) (show w.heap.size ≤ p by omega) (.int .u64 (r : Nat))
                      have h3 : sumL (fun j => upd S2 (i + m) r (i + j)) (m + 1) + c' * bp (m + 1) = sumL (fun j => S1 (i + j)) (m + 1) + P := by
                        have h2 := hr.out
                        rw [Ho2.out (i + m) (by omega)] at h2
                        have h4 := back_step (V := 0) Hsum.out h2
                        rw [Nat.zero_mul, Nat.add_zero, HPm.out] at h4
                        rw [sum_shift_upd, sumL_succ (fun j => S1 (i + j)), bp_succ]
                        exact h4
                      have h5 := round_next Hhe.out h3 HG1.out hc1
                      rw [HGg.out] at h5
                      obtain ⟨bn, hbn⟩ : ∃ bn, 1 - c' = bn := ⟨_, rfl⟩
                      rw [hbn] at h5
                      have ec : IntKind.u64.wrap (1 - (c' : Int)) = (bn : Nat) := by rw [IntKind.wrap_u64]; omega
                      have H5 := hid h5
                      have Ho3 : Hid (∀ j, j < i ∨ i + m < j → upd S2 (i + m) r j = S j) := hid fun j hj => by rw [upd_other _ _ _ (by omega), Ho2.out j (by omega)]; exact Ho.out j hj
                      have Hl3 := hid (upd_lt (k := i + m) Hl2.out hrl)
                      have hb3 : bn ≤ 1 := by omega
                      clear h3 h5 hbn gQ gP gT gB hr Hsum
                      go_wp2_with fail
                      clear e1 f1 j1 j2 ec hcx hfx hadd
                      go_roundw
                      case rel => exact ⟨G, bn, upd S2 (i + m) r, rfl, rfl, hb3, by have := Hgl.out; have := HGg.out; omega, HGq.out, H5.out, Ho3.out, Hl3.out, gQ1, gP1, gT1, gB1⟩
                      case measure => have := HGg.out; have := HG1.out; simp [intOf] <;> omega
theorem over_any {x y : Nat} {va vb : Value} {w : World} (ha : Am w va x) (hb : Am w vb y) (hx : nl x < 50000) (hyn : nl y < 50000) (h0 : 0 < y) :
    Calls Tryz.prog 119 #[va, vb] w fun e w' => Up w w' ∧ ∃ a n c b m d, e = .returned (.tuple #[.slice a n c, .slice b m d]) ∧ Am w' (.slice a n c) (x / y) ∧ Am w' (.slice b m d) (x % y) := by
  rcases (show nl y = 1 ∨ 2 ≤ nl y by have := nl_pos h0; omega) with h1 | h2
  · exact over_am ha hb (by omega) h1
  · by_cases hlt : x < y
    · obtain ⟨a, ca, rfl, hca1, hca0⟩ := ha.open
      obtain ⟨b, cb, rfl, hcb1, hcb0⟩ := hb.open
      have HC := hid (fun w' (h : Up w w') => cmp_am (ha.up h) (hb.up h) (by omega) (by omega))
      have hA := hid ha
      have e1 : x / y = 0 := Nat.div_eq_of_lt hlt
      have e2 : x % y = x := Nat.mod_eq_of_lt hlt
      have d1 : decide (ordZ x y < 0) = true := by unfold ordZ; rw [if_pos hlt]; rfl
      rw [e1, e2]
      clear ha hb e1 e2 hca0 hcb0 h2
      go_enter Tryz.func119, Tryz.ntmps119
      go_wp2_with (first | (go_at_call 86; (with_reducible refine (HC.out _ gUp).mono ?_); rintro e wC ⟨rfl, huC⟩))
      go_ret2
      exact ⟨gUp, _, _, _, _, _, _, rfl, am_nil _, hA.out.up huC⟩
    · exact over_long ha hb hx (by omega) h2
set_option maxHeartbeats 1000000 in
theorem div_pm2 (p q : Bool) (X Y : Nat) (a b : Option Addr) (ca cb : Nat) (w : World) (hA : Am w (.slice a (nl X) ca) X) (hB : Am w (.slice b (nl Y) cb) Y) (hx : nl X < 50000) (hyn : nl Y < 50000) (hy : 0 < Y) :
    Calls Tryz.prog 89 #[.agg #[.bool p, .slice a (nl X) ca], .agg #[.bool q, .slice b (nl Y) cb]] w fun e w' => Up w w' ∧ ∃ b1 a1 n1 c1 b2 a2 n2 c2, e = .returned (.tuple #[.agg #[.bool b1, .slice a1 n1 c1], .agg #[.bool b2, .slice a2 n2 c2]]) ∧ Big w' (.agg #[.bool b1, .slice a1 n1 c1]) ((pm p X).tdiv (pm q Y)) ∧ Big w' (.agg #[.bool b2, .slice a2 n2 c2]) ((pm p X).tmod (pm q Y)) := by
  rw [pm_quo, pm_rest]
  have HO := hid (fun w' (h : Up w w') => over_any (hA.up h) (hB.up h) hx hyn hy)
  clear hy hA hB
  generalize nl X = n at *
  generalize nl Y = m at *
  go_enter Tryz.func89, Tryz.ntmps89
  go_wp2_with (first | (go_at_call 119; (with_reducible refine (HO.out _ gUp).mono ?_); rintro e wO ⟨huO, a1, n1, c1, a2, n2, c2, rfl, hQ, hR⟩))
  obtain ⟨a1', c1', he1⟩ := hQ.shape
  obtain ⟨rfl, rfl, rfl⟩ : a1 = a1' ∧ n1 = nl (X / Y) ∧ c1 = c1' := by simpa using he1
  obtain ⟨a2', c2', he2⟩ := hR.shape
  obtain ⟨rfl, rfl, rfl⟩ : a2 = a2' ∧ n2 = nl (X % Y) ∧ c2 = c2' := by simpa using he2
  clear he1 he2
  refine opU (S := (fun wq => Blk wq (w.heap.size + 1 + 1) 46 #[.bool false, .slice none 0 0] ∧ Blk wq (w.heap.size + 1 + 1 + 1) 46 #[.bool false, .slice none 0 0] ∧ wq.cell? ⟨w.heap.size, 0, none⟩ = some (.bool p) ∧ wq.cell? ⟨w.heap.size + 1, 0, none⟩ = some (.bool q) ∧ Am wq (.slice a1 (nl (X / Y)) c1) (X / Y) ∧ Am wq (.slice a2 (nl (X % Y)) c2) (X % Y) ∧ Below w.heap.size w wq)) (req := (fun j => j != 11 && j != 12)) (fun _ _ h hu => ⟨(h.1).up hu, (h.2.1).up hu, hu.cell (h.2.2.1), hu.cell (h.2.2.2.1), (h.2.2.2.2.1).up hu, (h.2.2.2.2.2.1).up hu, below_up (h.2.2.2.2.2.2) hu⟩) ⟨gBlk, gBlk, (by first | assumption | (apply Blk.cell; exact gBlk; exact rfl)), (by first | assumption | (apply Blk.cell; exact gBlk; exact rfl)), (by (repeat (first | assumption | ((with_reducible apply am_set); exact gBlk) | (with_reducible apply am_alloc) | ((with_reducible apply am_up); assumption))); done), (by (repeat (first | assumption | ((with_reducible apply am_set); exact gBlk) | (with_reducible apply am_alloc) | ((with_reducible apply am_up); assumption))); done), gUp⟩ (fun wS hSS hSu => ?_)
  have ⟨hS1, hS2, hS3, hS4, hS5, hS6, hSB⟩ := hSS
  refine tkP 0 (some 16) hSu ?_
  refine tkT 1 (some 17) rfl hSu hSS ?_ (hy := fun w' hSw => by ((try dsimp only at hSw); (try obtain ⟨_, _, _, _, _, _, _⟩ := hSw); go_simp; (try exact rfl)))
  refine tkP 2 (some 18) hSu ?_
  refine tkT 3 (some 19) rfl hSu hSS ?_ (hy := fun w' hSw => by ((try dsimp only at hSw); (try obtain ⟨_, _, _, _, _, _, _⟩ := hSw); go_simp; (try exact rfl)))
  refine tkP 4 (some 20) hSu ?_
  refine tkP 5 (some 21) hSu ?_
  refine tkC 6 (some 22) rfl hSu hSS ?_ (hy := fun w' hSw => (made_any (!(p == q)) a1 (nl (X / Y)) c1 w'))
  refine tkP 7 (some 23) hSu ?_
  refine tkT 8 (some 24) rfl hSu hSS ?_ (hy := fun w' hSw => by ((try dsimp only at hSw); (try obtain ⟨_, _, _, _, _, _, _⟩ := hSw); go_simp; (try exact rfl)))
  refine tkP 9 (some 25) hSu ?_
  refine tkC 10 (some 26) rfl hSu hSS ?_ (hy := fun w' hSw => (made_any p a2 (nl (X % Y)) c2 w'))
  refine wpAnyU_one (i := 11) rfl (by kernel_rfl) (by rfl) fun w2 hw2 => ?_
  have k1 := hS1.up hw2
  refine wp_stB rfl rfl rfl rfl k1 rfl rfl (one2 _ _ _ _) ?_
  refine ⟨fun h => by simp at h, ?_⟩
  try simp only [Act.put, pu1]
  refine wpAnyU_one (i := 12) rfl (by kernel_rfl) (by rfl) fun w3 hw3 => ?_
  have k2 := ((hS2.up hw2).row_other (#[.bool (!(p == q) && decide (0 < nl (X / Y))), .slice a1 (nl (X / Y)) c1]) (show w.heap.size + 1 + 1 + 1 ≠ w.heap.size + 1 + 1 by omega)).up hw3
  refine wp_stB rfl rfl rfl rfl k2 rfl rfl (one2 _ _ _ _) ?_
  refine ⟨fun h => by simp at h, ?_⟩
  try simp only [Act.put, pu1]
  refine wpAnyU_done (by kernel_rfl) (fun wF huE => ?_) _
  have j1 := ((k1.setRow (#[.bool (!(p == q) && decide (0 < nl (X / Y))), .slice a1 (nl (X / Y)) c1])).up hw3).row_other (#[.bool (p && decide (0 < nl (X % Y))), .slice a2 (nl (X % Y)) c2]) (show w.heap.size + 1 + 1 ≠ w.heap.size + 1 + 1 + 1 by omega)
  have j2 := k2.setRow (#[.bool (p && decide (0 < nl (X % Y))), .slice a2 (nl (X % Y)) c2])
  have gQ := big_made (!(p == q)) (((((hS5.up hw2).setRow (D := (#[.bool (!(p == q) && decide (0 < nl (X / Y))), .slice a1 (nl (X / Y)) c1])) k1).up hw3).setRow (D := (#[.bool (p && decide (0 < nl (X % Y))), .slice a2 (nl (X % Y)) c2])) k2).up huE)
  have gR := big_made p (((((hS6.up hw2).setRow (D := (#[.bool (!(p == q) && decide (0 < nl (X / Y))), .slice a1 (nl (X / Y)) c1])) k1).up hw3).setRow (D := (#[.bool (p && decide (0 < nl (X % Y))), .slice a2 (nl (X % Y)) c2])) k2).up huE)
  have gB := below_up (below_setRow (below_up (below_setRow (below_up hSB hw2) (show w.heap.size ≤ w.heap.size + 1 + 1 by omega) (#[.bool (!(p == q) && decide (0 < nl (X / Y))), .slice a1 (nl (X / Y)) c1])) hw3) (show w.heap.size ≤ w.heap.size + 1 + 1 + 1 by omega) (#[.bool (p && decide (0 < nl (X % Y))), .slice a2 (nl (X % Y)) c2])) huE
  have j1' := j1.up huE
  have j2' := j2.up huE
  clear k1 k2 j1 j2 hS1 hS2 hS3 hS4 hS5 hS6 hSB hSS hw2 hw3 huE hQ hR
  go_wp2
  exact bodyPost_ret (resBB rfl rfl rfl j1' j2' rfl rfl) rfl ⟨gB, _, _, _, _, _, _, _, _, rfl, gQ, gR⟩
theorem div_big2 {x y : Int} {va vb : Value} {w : World} (ha : Big w va x) (hb : Big w vb y) (hx : nl x.natAbs < 50000) (hyn : nl y.natAbs < 50000) (hy : 0 < y.natAbs) :
    Calls Tryz.prog 89 #[va, vb] w fun e w' => Up w w' ∧ ∃ v, e = .returned v ∧ ∃ b1 a1 n1 c1 b2 a2 n2 c2, v = .tuple #[.agg #[.bool b1, .slice a1 n1 c1], .agg #[.bool b2, .slice a2 n2 c2]] ∧ Big w' (.agg #[.bool b1, .slice a1 n1 c1]) (x.tdiv y) ∧ Big w' (.agg #[.bool b2, .slice a2 n2 c2]) (x.tmod y) := by
  obtain ⟨a, ca, rfl, hA⟩ := ha
  obtain ⟨b, cb, rfl, hB⟩ := hb
  have h := div_pm2 (decide (x < 0)) (decide (y < 0)) x.natAbs y.natAbs a b ca cb w hA hB hx hyn hy
  rw [← pm_int, ← pm_int] at h
  refine h.mono ?_
  rintro e w' ⟨hu, b1, a1, n1, c1, b2, a2, n2, c2, rfl, h1, h2⟩
  exact ⟨hu, _, rfl, _, _, _, _, _, _, _, _, rfl, h1, h2⟩
end Go.Proofs.YtnpaodlhhcnbgaaGreatDoor
