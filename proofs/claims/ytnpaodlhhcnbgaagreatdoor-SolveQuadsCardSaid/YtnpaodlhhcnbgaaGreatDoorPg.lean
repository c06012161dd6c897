import Derived.Test.YtnpaodlhhcnbgaaGreatDoorPf
import Derived.OwnWalk
import Derived.Laws.CopyOwn
namespace Go.Proofs.YtnpaodlhhcnbgaaGreatDoor
open Go Go.RowKit
set_option maxRecDepth 100000
def Wx (w : World) (v : Value) (l : List Int) : Prop :=
  (l = [] ∧ ∃ p c, v = .slice p 0 c) ∨ ∃ g o cap C, v = .slice (some ⟨g, o, none⟩) l.length cap ∧ l.length ≤ cap ∧ Blk w g 33 C ∧ (C.toList.drop o).take (l.length * 16) = wcs l
theorem Wx.up {w w' : World} (hu : Up w w') {v : Value} {l : List Int} (h : Wx w v l) : Wx w' v l := by
  rcases h with h | ⟨g, o, cap, C, h1, h2, h3, h4⟩
  · exact .inl h
  · exact .inr ⟨g, o, cap, C, h1, h2, h3.up hu, h4⟩
theorem Wv.wx {w : World} {v : Value} {l : List Int} (h : Wv w v l) : Wx w v l := by
  rcases h with h | ⟨g, cap, C, h1, h2, h3, h4⟩
  · exact .inl h
  · exact .inr ⟨g, 0, cap, C, h1, h2, h3, by rw [List.drop_zero]; exact h4⟩
theorem OwnW.wx {w : World} {base : Nat} {v : Value} {l : List Int} (h : OwnW w base v l) : Wx w v l := h.wv.wx
theorem Wx.slice {w : World} {v : Value} {l : List Int} (h : Wx w v l) : ∃ p c, v = .slice p l.length c := by
  rcases h with ⟨rfl, p, c, rfl⟩ | ⟨g, o, cap, C, rfl, _⟩
  · exact ⟨p, c, rfl⟩
  · exact ⟨_, cap, rfl⟩
theorem Wx.open {w : World} {v : Value} {l : List Int} (h : Wx w v l) (h0 : 0 < l.length) :
    ∃ g o cap C, v = .slice (some ⟨g, o, none⟩) l.length cap ∧ l.length ≤ cap ∧ Blk w g 33 C ∧ (C.toList.drop o).take (l.length * 16) = wcs l := by
  rcases h with ⟨rfl, _⟩ | h
  · exact absurd h0 (by decide)
  · exact h
theorem wx_range {w : World} {g o : Nat} {C : Array Value} {l : List Int} (hB : Blk w g 33 C) (ht : (C.toList.drop o).take (l.length * 16) = wcs l) {i : Nat} (hi : i < l.length) : w.rangeAt g (o + i * 16) (wc (zth l i)) := by
  intro j v hv
  have hj : j < 16 := by have := (List.getElem?_eq_some_iff.1 hv).1; rw [wc_len] at this; exact this
  refine hB.cell _ ?_
  have h1 : ((C.toList.drop o).take (l.length * 16))[i * 16 + j]? = some v := by rw [ht, wcs_mid hi hj]; exact hv
  rw [List.getElem?_take_of_lt (by omega), List.getElem?_drop] at h1
  rw [← Array.getElem?_toList, Nat.add_assoc]
  exact h1
theorem wx_drop1 {w : World} {g o : Nat} {C : Array Value} {l : List Int} {n : Nat} (hB : Blk w g 33 C) (ht : (C.toList.drop o).take (l.length * 16) = wcs l) (hl : l.length = n + 1) : w.rangeAt g (o + 16) (wcs (l.drop 1)) := by
  intro j v hv
  have hj : j < n * 16 := by have := (List.getElem?_eq_some_iff.1 hv).1; rw [wcs_len, List.length_drop, hl] at this; omega
  refine hB.cell _ ?_
  rw [← wcs_drop (i := 1) (by omega), List.getElem?_drop, ← ht, List.getElem?_take_of_lt (by omega), List.getElem?_drop] at hv
  rw [← Array.getElem?_toList, Nat.add_assoc, ← Nat.one_mul 16]
  exact hv
theorem wx_tail {w : World} {g o n cap : Nat} {C : Array Value} {l : List Int} (hl : l.length = n + 1) (hc : n + 1 ≤ cap) (hB : Blk w g 33 C) (ht : (C.toList.drop o).take (l.length * 16) = wcs l) : Wx w (.slice (some ⟨g, o + 16, none⟩) n (cap - 1)) (l.drop 1) := by
  have hn : (l.drop 1).length = n := by rw [List.length_drop]; omega
  refine .inr ⟨g, o + 16, cap - 1, C, by rw [hn], by rw [hn]; omega, hB, ?_⟩
  rw [hn, ← wcs_drop (i := 1) (by omega), ← ht, Nat.one_mul, List.drop_take, hl, List.drop_drop, show (n + 1) * 16 - 16 = n * 16 by omega]
def Rx (w : World) (v : Value) (L : List (List Int)) : Prop :=
  (L = [] ∧ ∃ p c, v = .slice p 0 c) ∨ ∃ g o cap C, v = .slice (some ⟨g, o, none⟩) L.length cap ∧ L.length ≤ cap ∧ Blk w g 38 C ∧ ∀ i, i < L.length → ∃ s, C[o + i]? = some s ∧ Wx w s (L.getD i [])
theorem Rx.slice {w : World} {v : Value} {L : List (List Int)} (h : Rx w v L) : ∃ p c, v = .slice p L.length c := by
  rcases h with ⟨rfl, p, c, rfl⟩ | ⟨g, o, cap, C, rfl, _⟩
  · exact ⟨p, c, rfl⟩
  · exact ⟨_, cap, rfl⟩
theorem Rx.open {w : World} {v : Value} {L : List (List Int)} (h : Rx w v L) (h0 : 0 < L.length) :
    ∃ g o cap C, v = .slice (some ⟨g, o, none⟩) L.length cap ∧ L.length ≤ cap ∧ Blk w g 38 C ∧ ∀ i, i < L.length → ∃ s, C[o + i]? = some s ∧ Wx w s (L.getD i []) := by
  rcases h with ⟨rfl, _⟩ | h
  · exact absurd h0 (by decide)
  · exact h
def Wbx (w : World) (nb : Nat) (v : Value) (l : List Int) : Prop := Wx w v l ∧ ∀ a n c, v = .slice (some a) n c → 0 < n → a.block ≠ nb
theorem Wbx.up {w w' : World} (hu : Up w w') {nb : Nat} {v : Value} {l : List Int} (h : Wbx w nb v l) : Wbx w' nb v l := ⟨h.1.up hu, h.2⟩
theorem OwnW.wbx {w : World} {nb b : Nat} {v : Value} {l : List Int} (h : OwnW w b v l) (hb : nb < b) : Wbx w nb v l := by
  refine ⟨h.wx, fun a n c e h0 => ?_⟩
  obtain ⟨_, ⟨rfl, h1⟩ | ⟨g, cap, cur, rfl, h2, _⟩⟩ := h
  · simp at e
  · injection e with e1
    injection e1 with e1
    subst e1
    show g ≠ nb
    omega
theorem Wx.wbx {w : World} {nb : Nat} {v : Value} {l : List Int} (h : Wx w v l) (hn : w.heap.size ≤ nb) : Wbx w nb v l := by
  refine ⟨h, fun a n c e h0 => ?_⟩
  rcases h with ⟨rfl, p, c', rfl⟩ | ⟨g, o, cap, C, rfl, -, hB, -⟩
  · injection e with e1 e2
    omega
  · injection e with e1
    injection e1 with e1
    subst e1
    have := hB.lt
    show g ≠ nb
    omega
theorem Wbx.other {w : World} {nb : Nat} {v : Value} {l : List Int} (h : Wbx w nb v l) (D : Array Value) : Wbx (w.setRow nb D) nb v l := by
  obtain ⟨h1, h2⟩ := h
  refine ⟨?_, h2⟩
  rcases h1 with h1 | ⟨g', o', cap, C, hv, hc, hB, ht⟩
  · exact .inl h1
  · rcases Nat.eq_zero_or_pos l.length with h0 | h0
    · exact .inl ⟨List.length_eq_zero_iff.1 h0, _, _, by rw [hv, h0]⟩
    · exact .inr ⟨g', o', cap, C, hv, hc, Blk.row_other hB D (h2 _ _ _ hv h0), ht⟩
def OwnX (w : World) (base nb : Nat) (v : Value) (L : List (List Int)) : Prop :=
  ∃ xs : List Value, w.ownsRow base 38 1 v L.length xs ∧ ∀ i, i < L.length → ∃ s, xs[i]? = some s ∧ Wbx w nb s (L.getD i [])
theorem OwnX.up {w w' : World} {base nb : Nat} {v : Value} {L : List (List Int)} (hu : Up w w') (h : OwnX w base nb v L) : OwnX w' base nb v L := by
  obtain ⟨xs, h1, h2⟩ := h
  exact ⟨xs, World.ownsRow.up h1 hu, fun i hi => by obtain ⟨s, h5, h6⟩ := h2 i hi; exact ⟨s, h5, h6.up hu⟩⟩
theorem OwnX.nil (w : World) (base nb : Nat) : OwnX w base nb (.slice none 0 0) [] := ⟨[], World.ownsRow_nil _ _ _ _, fun _ hi => absurd hi (Nat.not_lt_zero _)⟩
theorem OwnX.other {w : World} {base nb : Nat} {v : Value} {L : List (List Int)} {C : Array Value} (h : OwnX w base nb v L) (hC : Blk w nb 33 C) (D : Array Value) : OwnX (w.setRow nb D) base nb v L := by
  obtain ⟨xs, ⟨h0, h1⟩, h2⟩ := h
  refine ⟨xs, ⟨h0, ?_⟩, fun i hi => by obtain ⟨s, h5, h6⟩ := h2 i hi; exact ⟨s, h5, h6.other D⟩⟩
  rcases h1 with h1 | ⟨g', cap, cur, hv, hb, hB, hr⟩
  · exact .inl h1
  · refine .inr ⟨g', cap, cur, hv, hb, Blk.row_other hB D fun e => ?_, hr⟩
    subst e
    unfold Blk at hC
    rw [hC] at hB
    simp at hB
theorem OwnR.ownx {w : World} {base nb : Nat} {v : Value} {L : List (List Int)} (h : OwnR w base v L) (hn : w.heap.size ≤ nb) : OwnX w base nb v L := by
  obtain ⟨xs, h1, h2⟩ := h
  exact ⟨xs, h1, fun i hi => by obtain ⟨s, h3, h4⟩ := h2 i hi; exact ⟨s, h3, h4.1.wx.wbx hn⟩⟩
theorem OwnX.open {w : World} {b nb : Nat} {v : Value} {L : List (List Int)} (h : OwnX w b nb v L) (h0 : 0 < L.length) :
    ∃ g cap C, v = .slice (some ⟨g, 0, none⟩) L.length cap ∧ b ≤ g ∧ L.length ≤ cap ∧ Blk w g 38 C ∧ ∀ i, i < L.length → ∃ s, C[i]? = some s ∧ Wbx w nb s (L.getD i []) := by
  obtain ⟨xs, ⟨_, h1 | ⟨g, cap, cur, hv, hbb, hB, hc, _, _, ht⟩⟩, h2⟩ := h
  · omega
  · refine ⟨g, cap, cur, hv, hbb, hc, hB, fun i hi => ?_⟩
    obtain ⟨s, h3, h4⟩ := h2 i hi
    rw [← ht, List.getElem?_take_of_lt (by omega), Array.getElem?_toList] at h3
    exact ⟨s, h3, h4⟩
theorem OwnX.slice {w : World} {base nb : Nat} {v : Value} {L : List (List Int)} (h : OwnX w base nb v L) : ∃ p c, v = .slice p L.length c := by
  rcases Nat.eq_zero_or_pos L.length with h0 | h0
  · obtain ⟨xs, ⟨_, ⟨rfl, h1⟩ | ⟨g, cap, cur, hv, _⟩⟩, _⟩ := h
    · exact ⟨none, 0, by rw [h0]⟩
    · exact ⟨_, cap, hv⟩
  · obtain ⟨g, cap, C, hv, _⟩ := h.open h0
    exact ⟨_, cap, hv⟩
theorem Rx.tail1 {w : World} {g n cap : Nat} {C : Array Value} {L : List (List Int)} (hl : L.length = n + 1) (hc : n + 1 ≤ cap) (hB : Blk w g 38 C) (hE : ∀ i, i < L.length → ∃ s, C[i]? = some s ∧ Wx w s (L.getD i [])) : Rx w (.slice (some ⟨g, 1, none⟩) n (cap - 1)) (L.drop 1) := by
  have hn : (L.drop 1).length = n := by rw [List.length_drop]; omega
  refine .inr ⟨g, 1, cap - 1, C, by rw [hn], by rw [hn]; omega, hB, fun i hi => ?_⟩
  rw [hn] at hi
  obtain ⟨s, h1, h2⟩ := hE (i + 1) (by omega)
  refine ⟨s, by rw [Nat.add_comm]; exact h1, ?_⟩
  have e : (L.drop 1).getD i [] = L.getD (i + 1) [] := by rw [List.getD_eq_getElem?_getD, List.getD_eq_getElem?_getD, List.getElem?_drop, Nat.add_comm]
  rw [e]
  exact h2
theorem Wx.grown {w w' : World} {row : Option Nat} {v : Value} {l : List Int} (h : Wx w v l) (hg : w.grownBy w' row) (hr : ∀ k, row = some k → ∃ C, Blk w k 38 C) : Wx w' v l := by
  rcases h with h | ⟨g, o, cap, C, h1, h2, h3, h4⟩
  · exact .inl h
  · refine .inr ⟨g, o, cap, C, h1, h2, ?_, h4⟩
    unfold Blk
    rw [hg.block g h3.lt ?_]
    · exact h3
    · intro e
      obtain ⟨D, hD⟩ := hr g e.symm
      unfold Blk at hD h3
      rw [hD] at h3
      simp at h3
theorem appX {ops : Array Oper} {rest : List Oper} {Q : Exit → Act → World → Prop} {a : Act} {w : World} {d : Option Tmp} {s u : Operand} {ty : TypeId} {pos : String} {af : Array Edge} {base nb g c : Nat} {v : Value} {L : List (List Int)} {x : Value} {r : List Int}
    (hs : a.eval s = v) (hu : a.eval u = .slice (some ⟨g, 0, none⟩) 1 c) (hown : OwnX w base nb v L) (hV : w.cell? ⟨g, 0, none⟩ = some x) (hx : Wbx w nb x r) (hbase : base ≤ w.heap.size) (hl : L.length < 1000000)
    (h : ∀ v' w', OwnX w' base nb v' (L ++ [r]) → w.grownBy w' v.ownBlock → Below base w w' → wpList Tryz.prog ops Q rest (a.put d v') w') :
    wpList Tryz.prog ops Q ({ dst := d, op := .call { callee := .builtin .append, args := #[s, u], argTypes := #[92, 92] }, type := ty, pos := pos, after := af, guard := none } :: rest) a w := by
  obtain ⟨i0, hi0, he⟩ := Option.map_eq_some_iff.1 infoRs
  simp only [Prod.mk.injEq] at he
  obtain ⟨xs, hxs, hE⟩ := hown
  have hlt := World.ownsRow.lt hxs
  have hrow : ∀ k, v.ownBlock = some k → ∃ C, Blk w k 38 C := by
    intro k hk
    obtain ⟨_, ⟨rfl, _⟩ | ⟨g', cap, cur, rfl, _, hB, _⟩⟩ := hxs
    · simp [Value.ownBlock] at hk
    · simp [Value.ownBlock] at hk; subst hk; exact ⟨cur, hB⟩
  have hxl : xs.length = L.length := by have := hxs.1; omega
  obtain ⟨px, cx, rfl⟩ := hx.1.slice
  refine wpList_append_own w rfl s u 92 rfl base 38 i0 _ 1 24 undRs hi0 he.1 he.2.1 he.2.2 rfl (by decide) v L.length xs hs hxs ⟨g, 0, none⟩ 1 c [.slice px r.length cx] hu rfl (fun j y hy => by
    rcases j with _ | j
    · simp at hy; subst hy; rw [Addr.add_mid]; exact hV
    · simp at hy) (by simp [Value.oneCell']) (by unfold maxLen; omega) (by omega) hbase ?_
  intro v' w' h1 h2 _
  refine h v' w' ⟨xs ++ [.slice px r.length cx], by rw [List.length_append]; exact h1, fun i hi => ?_⟩ h2 ⟨h2.os, h2.tape, h2.output, h2.size, fun k hk => h2.block k (by omega) fun e => ?_⟩
  · rw [List.length_append, List.length_singleton] at hi
    by_cases e : i < L.length
    · obtain ⟨s', h3, h4⟩ := hE i e
      refine ⟨s', by rw [List.getElem?_append_left (by omega)]; exact h3, ?_⟩
      rw [show (L ++ [r]).getD i [] = L.getD i [] from by rw [List.getD_eq_getElem?_getD, List.getD_eq_getElem?_getD, List.getElem?_append_left e]]
      exact ⟨h4.1.grown h2 hrow, h4.2⟩
    · obtain rfl : i = L.length := by omega
      refine ⟨_, by rw [List.getElem?_append_right (by omega), hxl, Nat.sub_self]; rfl, ?_⟩
      rw [show (L ++ [r]).getD L.length [] = r from by rw [List.getD_eq_getElem?_getD, List.getElem?_append_right (Nat.le_refl _), Nat.sub_self]; rfl]
      exact ⟨hx.1.grown h2 hrow, hx.2⟩
  · have := hlt k e.symm
    omega
theorem rx_tail {w : World} {g n c2 : Nat} {C : Array Value} {L : List (List Int)} (hl : L.length = n + 1) (hc : n + 1 ≤ c2 + 1) (hB : Blk w g 38 C) (hE : ∀ i, i < L.length → ∃ s, C[i]? = some s ∧ Wx w s (L.getD i [])) : Rx w (tailV g n c2) (L.drop 1) := by
  unfold tailV
  by_cases h0 : c2 = 0
  · have hn : (L.drop 1) = [] := List.length_eq_zero_iff.1 (by rw [List.length_drop]; omega)
    exact .inl ⟨hn, _, _, by rw [show n = 0 by omega]⟩
  · rw [if_neg h0]
    exact Rx.tail1 hl hc hB hE
theorem OwnX.tail {w : World} {b nb g s c2 : Nat} {L : List (List Int)} (h : OwnX w b nb (.slice (some ⟨g, 0, none⟩) (s + 1) (c2 + 1)) L) (hl : L.length = s + 1) : Rx w (tailV g s c2) (L.drop 1) := by
  obtain ⟨g', cap, C, hv, _, hc, hB, hE⟩ := h.open (by omega)
  injection hv with e1 e2 e3
  injection e1 with e1
  injection e1 with e1
  subst e1 e3
  exact rx_tail hl (by omega) hB fun i hi => by obtain ⟨s, h1, h2⟩ := hE i hi; exact ⟨s, h1, h2.1⟩
set_option maxHeartbeats 8000000 in
theorem stakenoff_any {vf vr : Value} {F R : List Int} {q : Int} {n : Nat} {w : World} (hF : Wx w vf F) (hR : Wx w vr R) (lF : F.length = n + 1) (lR : R.length = n + 1) (hn : n ≤ 8)
    (bF : Few F) (bR : Few R) (bq : q.natAbs < bp 5) (q0 : q ≠ 0) :
    Calls Tryz.prog 123 #[vf, vr, wideV (enc q)] w fun r w' => ∃ z, r = .returned z ∧ Up w w' ∧ ∃ b, w.heap.size ≤ b ∧ OwnW w' b z (tk F R q n) := by
  obtain ⟨gF, oF, cF, CF, rfl, -, hBF, htF⟩ := hF.open (by omega)
  obtain ⟨gR, oR, cR, CR, rfl, hcR, hBR, htR⟩ := hR.open (by omega)
  obtain ⟨old, hold⟩ : ∃ o, R.drop 1 = o := ⟨_, rfl⟩
  obtain rfl : n = old.length := by rw [← hold, List.length_drop]; omega
  have hRng16 : ∀ w', Blk w' gR 33 CR → w'.rangeAt gR (oR + 16) (wcs old) := fun w' hB => hold ▸ wx_drop1 hB htR lR
  have HRng16 := hid hRng16
  have HRng0 : Hid (old.length = 0 → ∀ (w' : World) g o, w'.rangeAt g o (wcs old)) := hid (fun h w' g o j v hv => by rw [List.length_eq_zero_iff.1 h] at hv; exact absurd hv (by simp [wcs]))
  have HRO : Hid (∀ i, zth old i = zth R (i + 1)) := hid (fun i => by rw [← hold, zth_drop])
  rw [lF, lR]
  rw [lR] at hcR
  obtain ⟨L', hL'⟩ : ∃ x, tk F R q old.length = x := ⟨_, rfl⟩
  have hlL : L'.length = old.length := by rw [← hL']; exact mk_len _ _
  have HlL := hid hlL
  have HAt : Hid (∀ i, i < old.length → zth L' i = (zth F 0 * zth R (i + 1) - zth R 0 * zth F (i + 1)).tdiv q) := hid (fun i hi => by rw [← hL']; exact mk_at hi)
  have HtF := hid htF
  have HtR := hid htR
  have HlF := hid lF
  have HlR := hid lR
  have hq : InR q := few_inR (by omega) bq
  rw [hL']
  obtain ⟨wS, hwS⟩ : ∃ x, w.alloc (.cells (cells 16 (limb (enc q))) 33) = x := ⟨_, rfl⟩
  have hBox : Row wS w.heap.size 33 16 (limb (enc q)) := by rw [← hwS]; exact row_newc _ _ _ rfl
  have hUS : Up w wS := by rw [← hwS]; exact Up.alloc _ _
  have hBFS := hBF.up hUS
  have hBRS := hBR.up hUS
  have hszS : wS.heap.size = w.heap.size + 1 := by rw [← hwS]; simp
  have hgF := hBF.lt
  have hgR := hBR.lt
  clear hF hR hold hRng16 hL' hlL htF htR lF lR hBF hBR
  obtain ⟨c2, rfl⟩ : ∃ c2, cR = c2 + 1 := ⟨cR - 1, by omega⟩
  unfold wideV at *
  rcases c2 with _ | c2
  · obtain rfl : old = [] := List.length_eq_zero_iff.1 (by omega)
    obtain rfl : L' = [] := List.length_eq_zero_iff.1 HlL.out
    go_enter Tryz.func123, Tryz.ntmps123
    go_wp2_with (first
      | ((with_reducible apply appW (l := []) (m := [])); exact rfl; exact rfl; exact OwnW.nil _ wS.heap.size; exact HRng0.out rfl _ _ _; exact Nat.le_refl _; (focus (simp; done)); (focus (simp; done)); rintro v1 w1 hO1 - hb1; rw [List.nil_append] at hO1; obtain ⟨pL, cL, rfl⟩ := hO1.slice))
    go_loopg [15] 1 (fun g ti wr => ti = .int .i64 0 ∧ OwnW wr wS.heap.size (.slice pL 0 cL) [] ∧ Up wS wr)
    case atStart => exact ⟨rfl, hO1, hb1⟩
    case round =>
      clear hO1 hb1
      obtain ⟨rfl, hO1, hb1⟩ := hrel
      go_wp2_with fail
      go_ret
      exact ⟨_, rfl, hUS.trans hb1, _, hUS.size, hO1⟩
  · go_enter Tryz.func123, Tryz.ntmps123
    go_wp2_with (first
      | ((with_reducible apply appW (l := []) (m := old)); exact rfl; exact rfl; exact OwnW.nil _ wS.heap.size; (first | exact HRng16.out _ hBRS | exact HRng0.out (by omega) _ _ _); exact Nat.le_refl _; (focus (simp; done)); (focus omega); rintro v1 w1 hO1 - hb1; rw [List.nil_append] at hO1; obtain ⟨pL, cL, rfl⟩ := hO1.slice))
    have hU1 : Up wS w1 := hb1
    go_loopg [15] old.length (fun g ti wr => ∃ i : Nat, i ≤ old.length ∧ old.length - i ≤ g ∧ ti = .int .i64 (i : Nat) ∧ OwnW wr wS.heap.size (.slice pL old.length cL) (mixed L' old i) ∧ Up wS wr)
    case atStart => exact ⟨0, Nat.zero_le _, by omega, rfl, by rw [mixed_zero]; exact hO1, hU1⟩
    case round =>
      clear hO1 hU1 hb1
      obtain ⟨i, hi, hig, rfl, hO, hu⟩ := hrel
      by_cases hlt : i < old.length
      · have hml := mixed_len HlL.out i
        obtain ⟨gL, cL', CL, hv, hbL, hBL, -, -, -, htL⟩ := hO.open (by omega)
        injection hv with x1 x2 x3
        subst x1 x3
        have hmi : zth (mixed L' old i) i = zth R (i + 1) := by rw [mixed_at HlL.out hlt, HRO.out]
        have hRL : ∀ w', Blk w' gL 33 CL → w'.rangeAt gL (i * 16) (wc (zth R (i + 1))) := fun w' hB => hmi ▸ wv_range hB htL (by omega)
        have HRL := hid hRL
        have HRF0 := hid (fun w' (hB : Blk w' gF 33 CF) => wx_range hB HtF.out (i := 0) (by rw [HlF.out]; omega))
        have HRFi := hid (fun w' (hB : Blk w' gF 33 CF) => wx_range hB HtF.out (i := i + 1) (by rw [HlF.out]; omega))
        have HRR0 := hid (fun w' (hB : Blk w' gR 33 CR) => wx_range hB HtR.out (i := 0) (by rw [HlR.out]; omega))
        have hat := HAt.out i hlt
        have b1 : (zth F 0 * zth R (i + 1)).natAbs < bp 10 := mul_bp (bF 0) (bR (i + 1))
        have b2 : (zth R 0 * zth F (i + 1)).natAbs < bp 10 := mul_bp (bR 0) (bF (i + 1))
        have HM1 := hid (fun w => stimes_any (w := w) (few_inR (by omega) (bF 0)) (few_inR (by omega) (bR (i + 1))) (few_inR (by omega) b1))
        have HM2 := hid (fun w => stimes_any (w := w) (few_inR (by omega) (bR 0)) (few_inR (by omega) (bF (i + 1))) (few_inR (by omega) b2))
        have b3 : (zth F 0 * zth R (i + 1) - zth R 0 * zth F (i + 1)).natAbs < bp 11 := by
          have e : bp 11 = bp 10 * 18446744073709551616 := bp_succ 10
          have := Int.natAbs_sub_le (zth F 0 * zth R (i + 1)) (zth R 0 * zth F (i + 1))
          omega
        have HS := hid (fun w => sless_any (w := w) (few_inR (by omega) b1) (few_inR (by omega) b2) (few_inR (by omega) b3))
        have HD := hid (fun w => div_any (few_inR (by omega) b3) hq w)
        have hdv : divZV (zth F 0 * zth R (i + 1) - zth R 0 * zth F (i + 1)) q = .tuple #[wideV (enc (zth L' i)), wideV (enc ((zth F 0 * zth R (i + 1) - zth R 0 * zth F (i + 1)).tmod q)), .bool true] := by
          unfold divZV
          rw [if_neg (by rintro (h | h); exact q0 h; exact h (few_inR (by omega) (tdiv_bp b3))), ← hat]
        rw [hdv] at HD
        have HSet := hid (mixed_set HlL.out hlt)
        clear b1 b2 b3 hdv hat hRL hmi htL hml x2
        generalize (zth F 0 * zth R (i + 1) - zth R 0 * zth F (i + 1)).tmod q = rest at *
        generalize zth F 0 * zth R (i + 1) - zth R 0 * zth F (i + 1) = dif at *
        generalize zth F 0 * zth R (i + 1) = p1 at *
        generalize zth R 0 * zth F (i + 1) = p2 at *
        go_wp2_with fail
        have hBFr := hBFS.up hu
        have hBRr := hBRS.up hu
        have hBxr := hBox.up hu
        have hgL : wS.heap.size ≤ gL := by omega
        have e1 : IntKind.i64.wrap ((i : Int) + 1) = (i : Int) + 1 := IntWalk.i64_in _ (by omega)
        have e2 : (0 : Int) ≤ (i : Int) + 1 ∧ (i : Int) + 1 < (old.length : Int) + 1 := by omega
        unfold wideV at *
        refine opU (S := (fun wq => Up wr wq ∧ Below w.heap.size w wq)) (req := (fun j => j != 19)) (fun _ _ h hu => ⟨(h.1).trans hu, below_up (h.2) hu⟩) ⟨(by first | exact Up.refl _ | assumption), gUp⟩ (fun wS hSS hSu => ?_)
        have ⟨hS1, hSB⟩ := hSS
        refine tkP 0 (some 18) hSu ?_
        refine tkP 1 (some 19) hSu ?_
        refine tkT 2 (some 20) rfl hSu hSS ?_ (hy := fun w' hSw => run_ldW rfl rfl (HRF0.out _ (hBFr.up hSw.1)))
        refine tkP 3 (some 21) hSu ?_
        refine tkP 4 (some 22) hSu ?_
        refine tkP 5 (some 23) hSu ?_
        refine tkT 6 (some 24) rfl hSu hSS ?_ (hy := fun w' hSw => run_ldW rfl rfl (HRL.out _ (hBL.up hSw.1)))
        refine tkC 7 (some 25) rfl hSu hSS ?_ (hy := fun w' hSw => (HM1.out _))
        refine tkP 8 (some 26) hSu ?_
        refine tkP 9 (some 27) hSu ?_
        refine tkT 10 (some 28) rfl hSu hSS ?_ (hy := fun w' hSw => run_ldW rfl rfl (HRR0.out _ (hBRr.up hSw.1)))
        refine tkP 11 (some 29) hSu ?_
        refine tkP 12 (some 30) hSu ?_
        refine tkP 13 (some 31) hSu ?_
        refine tkP 14 (some 32) hSu ?_
        refine tkT 15 (some 33) rfl hSu hSS ?_ (hy := fun w' hSw => run_ldW rfl rfl (HRFi.out _ (hBFr.up hSw.1)))
        refine tkC 16 (some 34) rfl hSu hSS ?_ (hy := fun w' hSw => (HM2.out _))
        refine tkC 17 (some 35) rfl hSu hSS ?_ (hy := fun w' hSw => (HS.out _))
        refine wpAnyU_allocW (i := 18) (d := (some 9)) rfl rfl (by kernel_rfl) (by rfl) rfl hSu.out fun w2 hw2 => ?_
        try simp only [Act.put, pu1, pu2, pu3]
        refine wpAnyU_one (i := 19) rfl (by kernel_rfl) (by rfl) fun w3 hw3 => ?_
        refine wp_st_rowN infoW rfl _ _ rfl _ rfl rfl ((Row.up (row_newc _ 16 _ rfl) hw3)) ?_
        refine ⟨fun h => by simp at h, ?_⟩
        try simp only [Act.put, pu1, pu2, pu3]
        refine wpAnyU_done (by kernel_rfl) (fun wF huE => ?_) _
        have hP1 := ((Row.up (row_newc 33 16 (fun _ => 0) (rfl : w2.heap.size = w2.heap.size)) hw3).setRow (limb (enc dif))).up huE
        have hx1 := up_var (hS1.trans hw2) hw3 huE
        have hlt1 := Nat.le_trans hu.size (hS1.trans hw2).size
        clear hS1 hSB hSS hw2 hw3 huE
        obtain ⟨wB, hwB⟩ : ∃ x, wF = x := ⟨_, rfl⟩
        rw [hwB] at hP1 hx1 ⊢
        clear hwB
        obtain ⟨b1, hb1⟩ : ∃ x, w2.heap.size = x := ⟨_, rfl⟩
        rw [hb1] at hP1 hlt1 ⊢
        clear hb1
        have hBxB := hBxr.up hx1
        have hBLB := hBL.up hx1
        have hOB := hO.up hx1
        have huB := hu.trans hx1
        have hltB := hBxB.lt
        clear hx1
        go_wp2_with (first
          | ((with_reducible apply ld_rowP undW infoW); exact rfl; exact rfl; exact gRow)
          | (go_at_call 111; (with_reducible refine (HD.out _).mono ?_); rintro r w7 ⟨rfl, hu7⟩; have hx7 : Up wB w7 := hu7; have hBL7 := hBLB.up hx7; have hset := (hOB.up hx7).set hBL7 (i := i) (by rw [mixed_len HlL.out]; exact hlt) (zth L' i); rw [HSet.out] at hset; have hu8 := below_setRow (huB.trans hx7) hgL (splW CL (i * 16) (zth L' i)))
          | ((with_reducible apply stW_P); exact rfl; exact rfl; exact hBL7; exact hset.2))
        go_roundg (old.length - (i + 1))
        case measure => omega
        case rel => exact ⟨i + 1, hlt, Nat.le_refl _, rfl, hset.1, hu8⟩
      · obtain rfl : i = old.length := by omega
        rw [← HlL.out, mixed_all HlL.out] at hO
        go_wp2_with fail
        go_ret
        rw [HlL.out] at hO
        exact ⟨_, rfl, hUS.trans hu, _, hUS.size, hO⟩
set_option maxHeartbeats 8000000 in
theorem turned_any {vf vo : Value} {F : List Int} {L : List (List Int)} {q : Int} {n nb : Nat} {w : World} (hF : Wbx w nb vf F) (hO : Rx w vo L) (lF : F.length = n + 1) (lL : ∀ i, i < L.length → (L.getD i []).length = n + 1) (hn : n ≤ 8) (h8 : L.length ≤ 8)
    (bF : Few F) (bL : ∀ i, Few (L.getD i [])) (bq : q.natAbs < bp 5) (q0 : q ≠ 0) (hnb : nb < w.heap.size) :
    Calls Tryz.prog 98 #[vf, vo, wideV (enc q)] w fun r w' => ∃ z, r = .returned z ∧ Up w w' ∧ ∃ b, w.heap.size ≤ b ∧ OwnX w' b nb z ((L.map fun R => tk F R q n) ++ [F.drop 1]) := by
  have HTK := hid (fun (R : List Int) (vr : Value) (w' : World) (hu : Up w w') (hR : Wx w' vr R) (lR : R.length = n + 1) (bR : Few R) => stakenoff_any (hF.1.up hu) hR lF lR hn bF bR bq q0)
  have HL := hid lL
  have HB := hid bL
  have hFo := hF.1
  obtain ⟨gF, oF, cF, CF, rfl, hcF, hBF, htF⟩ := hFo.open (by omega)
  have hgn : gF ≠ nb := hF.2 _ _ _ rfl (by omega)
  rw [lF] at hcF
  have HFT := hid (fun w' (hB : Blk w' gF 33 CF) => wx_tail lF hcF hB htF)
  have hdl : (F.drop 1).length = n := by rw [List.length_drop]; omega
  have HDL := hid hdl
  rw [lF] at HTK ⊢
  clear hF hFo htF
  obtain ⟨wS, hwS⟩ : ∃ x, w.alloc (.cells (cells 16 (limb (enc q))) 33) = x := ⟨_, rfl⟩
  have hBox : Row wS w.heap.size 33 16 (limb (enc q)) := by rw [← hwS]; exact row_newc _ _ _ rfl
  have hUS : Up w wS := by rw [← hwS]; exact Up.alloc _ _
  have hML : (L.map fun R => tk F R q n).length = L.length := List.length_map ..
  have HML := hid hML
  have HT := hid (fun k (hk : k < L.length) => take_map_succ (fun R => tk F R q n) L [] hk)
  obtain ⟨T, hT⟩ : ∃ T, (L.map fun R => tk F R q n) = T := ⟨_, rfl⟩
  rw [hT] at HML HT ⊢
  clear hT hML lL bL lF bF hdl
  have hnS : nb < wS.heap.size := Nat.lt_of_lt_of_le hnb hUS.size
  obtain ⟨c2, rfl⟩ : ∃ c2, cF = c2 + 1 := ⟨cF - 1, by omega⟩
  have HE := hid (show ∀ w', Up w w' → ∀ i, i < L.length → ∃ g o, vo.ownBlock = some g ∧ ∃ cO, vo = .slice (some ⟨g, o, none⟩) L.length cO ∧ ∃ s, w'.cell? ⟨g, o + i, none⟩ = some s ∧ Wx w' s (L.getD i []) from fun w' hu i hi => by
    obtain ⟨g, o, cO, CO, rfl, -, hBO, hE⟩ := hO.open (by omega)
    obtain ⟨s, h1, h2⟩ := hE i hi
    exact ⟨g, o, rfl, cO, rfl, s, (hBO.up hu).cell _ h1, h2.up hu⟩)
  obtain ⟨pO, cO, rfl⟩ := hO.slice
  clear hO
  unfold wideV at *
  go_enter Tryz.func98, Tryz.ntmps98
  go_wp2_with fail
  go_loopg [7, 12] L.length (fun g tr ti wr => ∃ k : Nat, k ≤ L.length ∧ L.length - k ≤ g ∧ ti = .int .i64 (k : Nat) ∧ OwnX wr wS.heap.size nb tr (T.take k) ∧ Up wS wr)
  case atStart => exact ⟨0, Nat.zero_le _, by omega, rfl, by rw [List.take_zero]; exact OwnX.nil _ _ _, Up.refl _⟩
  case round =>
    obtain ⟨k, hk, hkg, rfl, hO, hu⟩ := hrel
    have hsz := hu.size
    by_cases hlt : k < L.length
    · obtain ⟨gO, oO, -, cO', hv, s, hcx, h2⟩ := HE.out _ (hUS.trans hu) k hlt
      injection hv with x1 x2 x3
      subst x1 x3
      obtain ⟨ps, cs, rfl⟩ := h2.slice
      have hBx := hBox.up hu
      have HTKk := hid (fun w' (hu' : Up wr w') => HTK.out (L.getD k []) _ w' ((hUS.trans hu).trans hu') (h2.up hu') (HL.out k hlt) (HB.out k))
      have hT9 := HT.out k hlt
      have HT9 := hid hT9
      have HTk : Hid ((T.take k).length < 1000000) := hid (by rw [List.length_take, HML.out]; omega)
      have e1 : IntKind.i64.wrap ((k : Int) + 1) = (k : Int) + 1 := IntWalk.i64_in _ (by omega)
      clear h2 hT9 x2
      generalize L.getD k [] = R at *
      generalize tk F R q n = TK at *
      go_wp2_with (first
        | ((with_reducible apply ld_rowP undW infoW); exact rfl; exact rfl; exact gRow)
        | (go_at_call 123; (with_reducible refine (HTKk.out _ (Up.refl _)).mono ?_); rintro r w3 ⟨z3, rfl, hu3, b3, hb3, hO3⟩; obtain ⟨p3, c3, rfl⟩ := hO3.slice; have hsz3 := hu3.size)
        | ((with_reducible apply appX); exact rfl; exact rfl; exact OwnX.up (hu3.trans (Up.alloc _ _)) hO; exact (Blk.new _ _ rfl).cell 0 rfl; exact (hO3.up (Up.alloc _ _)).wbx (by omega); (focus (simp; omega)); exact HTk.out; rintro v6 w6 hO6 - hb6))
      go_roundg (L.length - (k + 1))
      case measure => omega
      case rel => exact ⟨k + 1, hlt, Nat.le_refl _, rfl, by rw [HT9.out]; exact hO6, Below.trans ((hu.trans hu3).trans (Up.alloc _ _)) hb6⟩
    · obtain rfl : k = L.length := by omega
      rw [← HML.out, List.take_length] at hO
      have HTk : Hid (T.length < 1000000) := hid (by rw [HML.out]; omega)
      have hBFr := hBF.up (hUS.trans hu)
      rcases c2 with _ | c2
      · obtain rfl : n = 0 := by omega
        have HW0 : Hid (∀ w', Wbx w' nb (.slice (some ⟨gF, oF, none⟩) 0 0) (F.drop 1)) := hid (fun w' => ⟨.inl ⟨List.length_eq_zero_iff.1 HDL.out, _, _, rfl⟩, fun _ _ _ e h0 => by injection e with e1 e2; omega⟩)
        have HDl := hid HDL.out
        go_wp2_with (first
          | ((with_reducible apply appX (r := F.drop 1)); exact rfl; exact rfl; exact OwnX.up (Up.alloc _ _) hO; exact (Blk.new _ _ rfl).cell 0 rfl; exact HW0.out _; (focus (simp; omega)); exact HTk.out; rintro v6 w6 hO6 - hb6))
        go_ret
        exact ⟨_, rfl, hUS.trans (Below.trans (hu.trans (Up.alloc _ _)) hb6), _, hUS.size, hO6⟩
      · have HW1 : Hid (∀ w', Blk w' gF 33 CF → Wbx w' nb (.slice (some ⟨gF, oF + 16, none⟩) n (c2 + 1)) (F.drop 1)) := hid (fun w' hB => ⟨HFT.out w' hB, fun _ _ _ e h0 => by injection e with e1; injection e1 with e1; subst e1; exact hgn⟩)
        go_wp2_with (first
          | ((with_reducible apply appX (r := F.drop 1)); exact rfl; exact rfl; exact OwnX.up (Up.alloc _ _) hO; exact (Blk.new _ _ rfl).cell 0 rfl; exact HW1.out _ (hBFr.up (Up.alloc _ _)); (focus (simp; omega)); exact HTk.out; rintro v6 w6 hO6 - hb6))
        go_ret
        exact ⟨_, rfl, hUS.trans (Below.trans (hu.trans (Up.alloc _ _)) hb6), _, hUS.size, hO6⟩
def rowV (n : Nat) (l v : List Int) (i : Nat) : List Int := rowE n l i ++ [zth v i]
def bsE (n : Nat) (l v : List Int) : List (List Int) := (List.range n).map fun i => rowV n l v i
theorem bsE_take_succ (n : Nat) (l v : List Int) {i : Nat} (hi : i < n) : (bsE n l v).take (i + 1) = (bsE n l v).take i ++ [rowV n l v i] := by
  unfold bsE
  rw [take_map_succ _ (List.range n) 0 (by simpa using hi), List.getD_eq_getElem?_getD, List.getElem?_range hi]
  rfl
theorem Win.start (n : Nat) (l v : List Int) : Win n n (bsE n l v) (AV n l v) := by
  have hl : (bsE n l v).length = n := by unfold bsE; simp
  refine ⟨hl, fun i hi => ?_⟩
  have e : (bsE n l v).getD i [] = rowV n l v i := by
    rw [List.getD_eq_getElem?_getD]
    unfold bsE
    rw [List.getElem?_map, List.getElem?_range hi]
    rfl
  have hr : (rowE n l i).length = n := mk_len _ _
  rw [e]
  unfold rowV
  refine ⟨by rw [List.length_append, hr]; rfl, fun j hj => ?_⟩
  unfold AV
  rw [if_pos hi]
  by_cases h : j < n
  · rw [if_pos h]
    unfold zth
    rw [List.getD_eq_getElem?_getD, List.getElem?_append_left (by omega), ← List.getD_eq_getElem?_getD]
    exact mk_at h
  · rw [if_neg h, if_pos (by omega)]
    unfold zth
    rw [List.getD_eq_getElem?_getD, List.getElem?_append_right (by omega), hr, show j - n = 0 by omega]
    rfl
set_option maxHeartbeats 8000000 in
theorem beside_any {v xv : Value} {n : Nat} {l x : List Int} {w : World} (hm : Sm w v n l) (hR : rt n l = true) (hx : Vw w xv x) (hxl : x.length = n) (hI : In64 x) :
    Calls Tryz.prog 97 #[v, xv] w fun r w' => ∃ z, r = .returned z ∧ Up w w' ∧ ∃ b, w.heap.size ≤ b ∧ OwnR w' b z (bsE n l x) := by
  have n8 : n ≤ 8 := by have := (rt_spec hR).2.1; omega
  have HAT := hid (fun (i j : Nat) (hi : i < n) (hj : j < n) w' (hu : Up w w') => at_right (hm.up hu) hR hi hj)
  have HO := hid (fun (i j : Nat) (hi : i < n) (hj : j < n) w => of_any (ent n l i j) (ent_i64 hR hi hj).1 (ent_i64 hR hi hj).2 w)
  have HOV := hid (fun (i : Nat) (hi : i < n) w => of_any (zth x i) (hI i (by omega)).1 (hI i (by omega)).2 w)
  have HXC := hid (fun w' (hu : Up w w') => hx.up hu)
  obtain ⟨px, cx, rfl, -, -⟩ := hx
  rw [hxl]
  obtain ⟨s, rfl, ⟨p, cap, rfl, hcap, hc⟩, hN, hl, hlen⟩ := hm
  obtain ⟨wS, hwS⟩ : ∃ x, w.alloc (.cells #[.int .i64 (n : Int), .slice p l.length cap] 24) = x := ⟨_, rfl⟩
  have hB : Blk wS w.heap.size 24 #[.int .i64 (n : Int), .slice p l.length cap] := by rw [← hwS]; exact Blk.new _ _ rfl
  have hU : Up w wS := by rw [← hwS]; exact Up.alloc _ _
  have hc0 := hB.cell 0 rfl
  have hsl : (bsE n l x).length = n := by unfold bsE; simp
  have HSL := hid hsl
  have HTR := hid (fun i (hi : i < n) => bsE_take_succ n l x hi)
  have HTE := hid (fun i j (hj : j < n) => mk_take_succ (n := n) (fun j => ent n l i j) hj)
  have HXL := hid hxl
  clear hc hl hlen hR hsl hN hI hxl
  unfold wideV at *
  go_enter Tryz.func97, Tryz.ntmps97
  go_wp2_with fail
  clear hwS hc0
  go_loopg [5, 13] n (fun g tr ti wr => ∃ i : Nat, i ≤ n ∧ n - i ≤ g ∧ ti = .int .i64 (i : Nat) ∧ OwnR wr wS.heap.size tr ((bsE n l x).take i) ∧ Up wS wr)
  case atStart => exact ⟨0, Nat.zero_le _, by omega, rfl, by rw [List.take_zero]; exact OwnR.nil _ _, Up.refl _⟩
  case round =>
    obtain ⟨i, hi, hig, rfl, hO, hu⟩ := hrel
    have hc0 := (hB.up hu).cell 0 rfl
    by_cases hlt : i < n
    · have e1 : IntKind.i64.wrap ((i : Int) + 1) = (i : Int) + 1 := IntWalk.i64_in _ (by omega)
      go_wp2_with fail
      obtain ⟨wO, hwO⟩ : ∃ y, wr = y := ⟨_, rfl⟩
      rw [hwO] at hO hu hc0 ⊢
      clear hwO
      go_loopg [7, 18] n (fun g te tj wr => ∃ j : Nat, j ≤ n ∧ n - j ≤ g ∧ tj = .int .i64 (j : Nat) ∧ OwnW wr wO.heap.size te ((rowE n l i).take j) ∧ Up wO wr)
      case atStart => exact ⟨0, Nat.zero_le _, by omega, rfl, by rw [List.take_zero]; exact OwnW.nil _ _, Up.refl _⟩
      case round =>
        clear hc0
        obtain ⟨j, hj, hjg, rfl, hE, huj⟩ := hrel
        have hBj := hB.up (hu.trans huj)
        have hc0 := hBj.cell 0 rfl
        by_cases hjlt : j < n
        · have e2 : IntKind.i64.wrap ((j : Int) + 1) = (j : Int) + 1 := IntWalk.i64_in _ (by omega)
          have HA := hid (fun w' (hu' : Up wr w') => HAT.out i j hlt hjlt w' (hU.trans ((hu.trans huj).trans hu')))
          have HOf := hid (HO.out i j hlt hjlt)
          have HT9 := hid (HTE.out i j hjlt)
          have HTk : Hid (((rowE n l i).take j).length < 1000000) := hid (by rw [List.length_take]; omega)
          have hszj := huj.size
          generalize ent n l i j = z at *
          go_wp2_with (first
            | ((with_reducible apply ldM_P); exact rfl; exact rfl; exact hBj; exact rfl)
            | (go_at_call 78; (with_reducible refine (HA.out _ (Up.refl _)).mono ?_); rintro r w2 ⟨rfl, hu2⟩; have hs2 := hu2.size)
            | (go_at_call 43; (with_reducible refine (HOf.out _).mono ?_); rintro r w3 ⟨rfl, hu3⟩; have hs3 := hu3.size)
            | ((with_reducible apply bsW_P); exact rfl)
            | ((with_reducible apply appW (l := (rowE n l i).take j) (m := [z])); exact rfl; exact rfl; exact OwnW.up ((hu2.trans hu3).trans (Up.alloc _ _)) hE; exact one_range rfl; (focus (simp; omega)); exact HTk.out; (focus (simp; done)); rintro v6 w6 hO6 - hb6))
          go_roundg (n - (j + 1))
          case measure => omega
          case rel => exact ⟨j + 1, hjlt, Nat.le_refl _, rfl, by rw [show rowE n l i = mk n fun j => ent n l i j from rfl, HT9.out]; exact hO6, Below.trans (huj.trans ((hu2.trans hu3).trans (Up.alloc _ _))) hb6⟩
        · obtain rfl : j = n := by omega
          rw [List.take_of_length_le (by show (mk _ _).length ≤ _; rw [mk_len]; exact Nat.le_refl _)] at hE
          obtain ⟨pe, ce, rfl⟩ := hE.slice
          have HT9 := hid (HTR.out i hlt)
          have HTk : Hid (((bsE j l x).take i).length < 1000000) := hid (by rw [List.length_take]; omega)
          have HRl : Hid ((rowE j l i).length < 1000000) := hid (by show (mk _ _).length < _; rw [mk_len]; omega)
          have hszj := huj.size
          have hszu := hu.size
          have HOf := hid (HOV.out i hlt)
          obtain ⟨q', cq', xq, _, hcq⟩ := HXC.out _ (hU.trans (hu.trans huj))
          injection xq with y1 y2 y3
          subst y1
          obtain ⟨a2, rfl, hck⟩ := hcq i (by rw [HXL.out]; exact hlt)
          clear hcq y2 y3
          have eRV : rowV j l x i = rowE j l i ++ [zth x i] := rfl
          rw [eRV] at HT9
          clear eRV
          generalize zth x i = z at *
          go_wp2_with (first
            | (go_at_call 43; (with_reducible refine (HOf.out _).mono ?_); rintro r w3 ⟨rfl, hu3⟩; have hs3 := hu3.size)
            | ((with_reducible apply bsW_P); exact rfl)
            | ((with_reducible apply appW (l := rowE j l i) (m := [z])); exact rfl; exact rfl; exact OwnW.up (hu3.trans (Up.alloc _ _)) hE; exact one_range rfl; (focus (simp; omega)); exact HRl.out; (focus (simp; done)); rintro v5 w5 hO5 - hb5; obtain ⟨p5, c5, rfl⟩ := hO5.slice; rw [List.length_append, List.length_singleton] at hO5; have hUw : Up wO w5 := Below.trans (huj.trans (hu3.trans (Up.alloc _ _))) hb5; have hs5 := hUw.size)
            | ((with_reducible apply appR (r := rowE j l i ++ [z])); exact rfl; exact rfl; exact OwnR.up (hUw.trans (Up.alloc _ _)) hO; exact (Blk.new _ _ rfl).cell 0 rfl; exact (hO5.up (Up.alloc _ _)).wb (by omega); (focus (simp; omega)); exact HTk.out; rintro v6 w6 hO6 - hb6))
          go_roundg (j - (i + 1))
          case measure => omega
          case rel => exact ⟨i + 1, hlt, Nat.le_refl _, rfl, by rw [HT9.out]; exact hO6, Below.trans ((hu.trans hUw).trans (Up.alloc _ _)) hb6⟩
    · obtain rfl : i = n := by omega
      rw [List.take_of_length_le (by rw [HSL.out]; exact Nat.le_refl _)] at hO
      go_wp2_with fail
      go_ret
      exact ⟨_, rfl, hU.trans hu, _, hU.size, hO⟩
theorem resTC {w : World} {fn : Func} {p u : Tmp} (h : fn.results = #[.tmp u, .cell p 33]) (tmps : Array Value) (g : Nat) (hp : tmps.getD p undef = .pointer (some ⟨g, 0, none⟩))
    {f : Nat → Nat} (hC : Row w g 33 16 f) : (results fn tmps).run Tryz.prog w = .ok (.tuple #[tmps.getD u undef, .agg (cells 16 f)]) w := by
  have hp' : tmps[p]?.getD undef = .pointer (some ⟨g, 0, none⟩) := by simpa using hp
  simp [results, h, hp', asAddr, run_row undW infoW hC, Result.andThen_ok]
theorem run_tailN {ev : Operand → Value} {w : World} {d : Option Tmp} {s : Tmp} {ty : TypeId} {pos : String} {af : Array Edge} {gd : Option (Nat × Bool)} {g n m c c2 : Nat} (hc : m ≤ c2) (hx : ev (.tmp s) = .slice (some ⟨g, 0, none⟩) n c) (hn : n = m + 1) (h2 : c = c2 + 1) (hk : ev (.const (.int .i64 1)) = .int .i64 1) :
    (execOp ev { dst := d, op := .slice 92 (.tmp s) (some (.const (.int .i64 1))) none none, type := ty, pos := pos, after := af, guard := gd }).run Tryz.prog w = .ok (.value (tailV g m c2)) w := by
  subst hn h2
  exact run_tail hc hx hk
def slL (n : Nat) (l x : List Int) : List Int := mk n fun i => slX n l x i
set_option maxHeartbeats 16000000 in
theorem solution_any {v xv : Value} {n : Nat} {l x : List Int} {w : World} (hm : Sm w v n l) (hD : Def n l x) (hx : Vw w xv x) (hxl : x.length = n) (hI : In64 x) :
    Calls Tryz.prog 62 #[v, xv] w fun r w' => ∃ z b, r = .returned (.tuple #[z, wideV (enc (slD n l))]) ∧ Up w w' ∧ w.heap.size ≤ b ∧ OwnW w' b z (slL n l x) := by
  have HBE := hid (fun w' (hu : Up w w') => beside_any (hm.up hu) hD.right (hx.up hu) hxl hI)
  have HO1 := hid (fun w => of_any 1 (by decide) (by decide) w)
  have HD := hid hD
  have hn8 := hD.n8
  obtain ⟨px, cx, rfl, -, -⟩ := hx
  rw [hxl] at HBE ⊢
  clear hxl
  obtain ⟨s, rfl, ⟨p, cap, rfl, hcap, hc⟩, hN, hl, hlen⟩ := hm
  obtain ⟨W0, hW0⟩ : ∃ y, (w.alloc (.cells #[.int .i64 (n : Int), .slice p l.length cap] 24)).alloc (.cells (cells 16 (fun _ => 0)) 33) = y := ⟨_, rfl⟩
  have hB : Blk W0 w.heap.size 24 #[.int .i64 (n : Int), .slice p l.length cap] := by rw [← hW0]; exact (Blk.new _ _ rfl).old _
  have hQ : Row W0 (w.heap.size + 1) 33 16 (fun _ => 0) := by rw [← hW0]; exact row_newc _ _ _ (by simp)
  have hU : Up w W0 := by rw [← hW0]; exact (Up.alloc _ _).trans (Up.alloc _ _)
  rw [← zeros16] at hW0
  have hslen : (slL n l x).length = n := mk_len _ _
  have HSLn := hid hslen
  have HSL := hid (fun i (hi : i < n) => show (slL n l x).take (i + 1) = (slL n l x).take i ++ [slX n l x i] from mk_take_succ (fun i => slX n l x i) hi)
  clear hc hl hlen hN hI hD hslen
  unfold wideV at *
  go_enter Tryz.func62, Tryz.ntmps62
  go_wp2_with (first
    | ((with_reducible apply ldM_P); exact rfl; exact rfl; exact hB; exact rfl)
    | (go_at_call 97; (with_reducible refine (HBE.out _ hU).mono ?_); rintro r w1 ⟨z1, rfl, hu1, b1, hb1, hO1⟩; obtain ⟨pz, cz, rfl⟩ := hO1.slice; have hU1 := hU.trans hu1; have hB1 := hB.up hu1; have hQ1 := hQ.up hu1)
    | (go_at_call 43; (with_reducible refine (HO1.out _).mono ?_); rintro r w2 ⟨rfl, hu2⟩; have hs2 := hu2.size)
    | ((with_reducible apply st_rowP infoW); exact rfl; exact rfl; exact row_newz _ rfl
       refine wpL_folded (fun wd => Up w2 wd ∧ Row wd w2.heap.size 33 16 (limb (enc 1))) ⟨gUp, gRow⟩ ?_
       rintro wL ⟨hXL, hLast⟩
       have hX1 := hu2.trans hXL
       have hU3 := hU1.trans hX1
       have hB3 := hB1.up hX1
       have hQ3 := hQ1.up hX1
       have hO3 := (hO1.ownx (nb := w2.heap.size) hs2).up hX1
       have hc0 := hB3.cell 0 rfl))
  obtain ⟨bL, hbL⟩ : ∃ y, w2.heap.size = y := ⟨_, rfl⟩
  have hwbL : w.heap.size + 1 < bL := by
    have h1 := hQ1.lt
    omega
  rw [hbL] at hLast hO3 ⊢
  have hWin := hid (Win.start n l x)
  have hInv : ∃ (k : Nat) (L : List (List Int)) (bR : Nat), k ≤ n ∧ 0 = k ∧ Win n (n - k) L (gs (AV n l x) k).2 ∧ OwnX wL bR bL (.slice pz (bsE n l x).length cz) L ∧ Row wL bL 33 16 (limb (enc (gs (AV n l x) k).1)) ∧ Row wL (w.heap.size + 1) 33 16 (fun _ => 0) ∧ Up w wL :=
    ⟨0, bsE n l x, b1, by omega, rfl, hWin.out, hO3, hLast, hQ3, hU3⟩
  clear hWin hO3 hLast hQ3 hU3 hX1 hXL hbL hu1 hU1 hb1 hO1 hB1 hQ1 hu2 hs2 hW0 hB hQ hU HBE HO1
  go_wp2_with fail
  go_loopg [6, 18] n (fun g tr ti wr => ∃ (k : Nat) (L : List (List Int)) (bR : Nat), k ≤ n ∧ n - k ≤ g ∧ ti = .int .i64 (k : Nat) ∧ Win n (n - k) L (gs (AV n l x) k).2 ∧ OwnX wr bR bL tr L ∧ Row wr bL 33 16 (limb (enc (gs (AV n l x) k).1)) ∧ Row wr (w.heap.size + 1) 33 16 (fun _ => 0) ∧ Up w wr)
  case atStart =>
    obtain ⟨k, L, bR, h1, h0, h2⟩ := hInv
    subst h0
    exact ⟨0, L, bR, h1, by omega, rfl, h2⟩
  case round =>
    clear hInv hB3 hc0
    obtain ⟨k, L, bR, hk, hkg, rfl, hW, hO, hRow, hQ, hu⟩ := hrel
    obtain ⟨pr, cr, rfl⟩ := hO.slice
    rw [hW.1]
    by_cases hlt : k < n
    · obtain ⟨s, hs⟩ : ∃ s, n - k = s + 1 := ⟨n - k - 1, by omega⟩
      rw [hs] at hW
      obtain ⟨gR, cR, CR, hv, hgR, hcR, hBR, hE⟩ := hO.open (by rw [hW.1]; omega)
      injection hv with x1 x2 x3
      subst x1 x3
      rw [hW.1] at hcR
      obtain ⟨sF, hsF, hWF⟩ := hE 0 (by rw [hW.1]; omega)
      obtain ⟨hLF, hLFe⟩ := hW.2 0 (by omega)
      obtain ⟨gF, oF, cF, CF, hvF, hcF, hBF, htF⟩ := hWF.1.open (by rw [hLF]; omega)
      have HWv : Hid (∀ w', Blk w' gF 33 CF → Wbx w' bL (.slice (some ⟨gF, oF, none⟩) (s + 1 + 1) cF) (L.getD 0 [])) := hid (fun w' hB => ⟨.inr ⟨gF, oF, cF, CF, by rw [hLF], hcF, hB, htF⟩, fun a n c e h0 => hWF.2 a n c (by rw [hvF, hLF]; exact e) h0⟩)
      subst hvF
      rw [hLF] at hsF
      have HSV := hid (HD.out.sv k hk)
      have HPos := hid (gs_pos HD.out.pos' hlt)
      have HLst := hid (fun j => HD.out.last hlt j)
      have HRng : Hid (∀ w', Blk w' gF 33 CF → w'.rangeAt gF oF (wc ((gs (AV n l x) k).2 0 0))) := hid (fun w' hB => by
        have h := wx_range hB htF (i := 0) (by rw [hLF]; omega)
        rw [hLFe 0 (by omega), Nat.zero_mul] at h
        exact h)
      have hcx := hBR.cell 0 hsF
      have hlt9 := hRow.lt
      have e1 : IntKind.i64.wrap ((k : Int) + 1) = (k : Int) + 1 := IntWalk.i64_in _ (by omega)
      have HW := hid hW
      have HLF := hid hLF
      have HG1 : Hid ((gs (AV n l x) (k + 1)).1 = (gs (AV n l x) k).2 0 0) := hid rfl
      have HG2 : Hid ((gs (AV n l x) (k + 1)).2 = nxt (gs (AV n l x) k).1 (gs (AV n l x) k).2) := hid rfl
      have hcR2 := hcR
      have e0 : (0 : Int) < (s : Int) + 1 + 1 := by omega
      rw [hW.1] at hO
      clear hLFe htF hWF hsF hE x2 hcF hW hLF hcR
      obtain ⟨q, hq⟩ : ∃ q, (gs (AV n l x) k).1 = q := ⟨_, rfl⟩
      obtain ⟨M, hM⟩ : ∃ M, (gs (AV n l x) k).2 = M := ⟨_, rfl⟩
      rw [hq, hM] at HSV
      rw [hM] at HPos HRng HW HG1
      rw [hq] at hRow
      rw [hq, hM] at HG2
      have HLst2 : Hid (∀ j, nxt q M (n - 1) j = M 0 (j + 1)) := hid (fun j => by have := HLst.out j; rw [HG2.out, hM] at this; exact this)
      clear hq hM HLst
      obtain ⟨m, hm⟩ : ∃ m, n = m + 1 := ⟨n - 1, by omega⟩
      obtain ⟨c2, hc2⟩ : ∃ c2, cr = c2 + 1 := ⟨cr - 1, by omega⟩
      have Hm := hid hm
      have Hc2 := hid hc2
      have hmc : m ≤ c2 := by omega
      have hO' : OwnX wr bR bL (.slice (some ⟨gR, 0, none⟩) (m + 1) (c2 + 1)) L := by rw [← hm, ← hc2]; exact hO
      have HO' := hid hO'
      clear hm hc2 hO' hO
      obtain ⟨NX, hNX⟩ : ∃ y, turn q s L = y := ⟨_, rfl⟩
      have HNX := hid hNX
      have HFW : Hid (∀ w', Up wr w' → Calls Tryz.prog 98 #[.slice (some ⟨gF, oF, none⟩) (s + 1 + 1) cF, tailV gR m c2, .agg (cells 16 (limb (enc q)))] w' (fun e w'' => Up w' w'' ∧ ∃ v, e = .returned v ∧ (fun v w'' => ∃ b, wr.heap.size ≤ b ∧ OwnX w'' b bL v NX) v w'')) := hid (fun w' hu' => by
        have hf := turned_any (q := q) (n := s + 1) (nb := bL) (HWv.out w' (hBF.up hu')) ((HO'.out.up hu').tail (by rw [HW.out.1]; exact Hm.out)) HLF.out (fun i hi => by
            rw [List.length_drop, HW.out.1] at hi
            rw [show (L.drop 1).getD i [] = L.getD (i + 1) [] from by rw [List.getD_eq_getElem?_getD, List.getD_eq_getElem?_getD, List.getElem?_drop, Nat.add_comm]]
            exact (HW.out.2 (i + 1) (by omega)).1) (by omega) (by rw [List.length_drop, HW.out.1]; omega) (HW.out.few HSV.out (by omega) 0) (fun i => by rw [show (L.drop 1).getD i [] = L.getD (i + 1) [] from by rw [List.getD_eq_getElem?_getD, List.getD_eq_getElem?_getD, List.getElem?_drop, Nat.add_comm]]; exact HW.out.few HSV.out (by omega) (i + 1)) HSV.out.2.2 (Int.ne_of_gt HSV.out.2.1) (Nat.lt_of_lt_of_le hlt9 hu'.size)
        unfold wideV at hf
        rw [show ((L.drop 1).map fun R => tk (L.getD 0 []) R q (s + 1)) ++ [(L.getD 0 []).drop 1] = turn q s L from rfl, hNX] at hf
        refine hf.mono fun _ _ h => ?_
        obtain ⟨z, rfl, hu, b, hb, hO⟩ := h
        exact ⟨hu, z, rfl, b, Nat.le_trans hu'.size hb, hO⟩)
      clear hNX
      obtain ⟨m0, hm0⟩ : ∃ y, M 0 0 = y := ⟨_, rfl⟩
      rw [hm0] at HRng HG1
      clear hm0
      go_wp2_with fail
      refine opU (S := (fun wq => Up wr wq ∧ Below w.heap.size w wq)) (req := (fun j => j != 9)) (fun _ _ h hu => ⟨(h.1).trans hu, below_up (h.2) hu⟩) ⟨(by first | exact Up.refl _ | assumption), gUp⟩ (fun wS hSS hSu => ?_)
      have ⟨hS1, hSB⟩ := hSS
      refine tkP 0 (some 23) hSu ?_
      refine tkP 1 (some 24) hSu ?_
      refine tkO 2 (some 25) rfl hSu ?_ (hy := fun w' => run_tailN hmc rfl Hm.out Hc2.out rfl)
      refine tkT 3 (some 26) rfl hSu hSS ?_ (hy := fun w' hSw => run_ld undW infoW _ rfl _ rfl (hRow.up hSw.1))
      refine tkP 5 (some 28) hSu ?_
      refine tkP 6 (some 29) hSu ?_
      refine tkT 7 (some 30) rfl hSu hSS ?_ (hy := fun w' hSw => run_ldW rfl rfl (HRng.out _ (hBF.up hSw.1)))
      refine wpAnyU_callE (i := 4) (d := (some 27)) rfl rfl (by kernel_rfl) (by rfl) hSu.out (fun w' => by go_simp) (fun w' hw' => (HFW.out w' (hS1.trans hw'))) fun vG wG hwG hRG => ?_
      try simp only [Act.put, pu1, pu2, pu3]
      obtain ⟨bN, hbN, hON⟩ := hRG
      obtain ⟨pN, cN, rfl⟩ := hON.slice
      refine tkP 8 (some 6) hSu ?_
      refine wpAnyU_one (i := 9) rfl (by kernel_rfl) (by rfl) fun wX hwX => ?_
      refine wp_st_rowN infoW rfl _ _ rfl _ rfl rfl ((hRow.up ((hS1.trans hwG).trans hwX))) ?_
      refine ⟨fun h => by simp at h, ?_⟩
      try simp only [Act.put, pu1, pu2, pu3]
      refine wpAnyU_done (by kernel_rfl) (fun wF huE => ?_) _
      have hUG := (hS1.trans hwG).trans hwX
      have gRow := ((hRow.up hUG).setRow (limb (enc m0))).up huE
      have gO := ((hON.up hwX).other (hRow.up hUG) (cells 16 (limb (enc m0)))).up huE
      have gU := Up.trans (below_setRow (hu.trans hUG) (show w.heap.size ≤ bL by omega) (cells 16 (limb (enc m0)))) huE
      have gQ := ((hQ.up hUG).row_other (cells 16 (limb (enc m0))) (show w.heap.size + 1 ≠ bL by omega)).up huE
      have gW : Win n s NX (nxt q M) := HNX.out ▸ HW.out.next (by omega) HLst2.out
      rw [← HG1.out] at gRow
      rw [← HG2.out] at gW
      clear hS1 hSB hSS hwG hwX huE hON hUG
      go_wp2_with fail
      go_roundg (n - (k + 1))
      case measure => omega
      case rel => exact ⟨k + 1, NX, bN, hlt, Nat.le_refl _, rfl, by rw [show n - (k + 1) = s by omega]; exact gW, gO, gRow, gQ, gU⟩
    · obtain rfl : k = n := by omega
      rw [Nat.sub_self] at hW
      have HRow : Hid (Row wr bL 33 16 (limb (enc (slD k l)))) := hid (by rw [← HD.out.den]; exact hRow)
      clear hRow
      rw [hW.1] at hO
      have HW := hid hW
      have HO := hid hO
      clear hW hO
      go_wp2_with fail
      obtain ⟨wO, hwO⟩ : ∃ y, wr = y := ⟨_, rfl⟩
      rw [hwO] at hu hQ HRow HO ⊢
      clear hwO
      go_loopg [9, 34] k (fun g tn ti wr => ∃ i : Nat, i ≤ k ∧ k - i ≤ g ∧ ti = .int .i64 (i : Nat) ∧ OwnW wr wO.heap.size tn ((slL k l x).take i) ∧ Up wO wr)
      case atStart => exact ⟨0, Nat.zero_le _, by omega, rfl, by rw [List.take_zero]; exact OwnW.nil _ _, Up.refl _⟩
      case round =>
        obtain ⟨i, hi, hig, rfl, hN, hui⟩ := hrel
        by_cases hil : i < k
        · obtain ⟨gR, cR, CR, hv, -, -, hBR, hE⟩ := HO.out.open (by rw [HW.out.1]; omega)
          injection hv with x1 x2 x3
          subst x1 x3
          obtain ⟨sF, hsF, hWF⟩ := hE i (by rw [HW.out.1]; exact hil)
          obtain ⟨hLF, hLFe⟩ := HW.out.2 i hil
          obtain ⟨gF, oF, cF, CF, hvF, hcF, hBF, htF⟩ := hWF.1.open (by rw [hLF]; omega)
          subst hvF
          rw [hLF] at hsF
          have HRng : Hid (∀ w', Blk w' gF 33 CF → w'.rangeAt gF oF (wc (slX k l x i))) := hid (fun w' hB => by
            have h := wx_range hB htF (i := 0) (by rw [hLF]; omega)
            rw [hLFe 0 (by omega), Nat.zero_mul] at h
            exact h)
          have hcx := (hBR.up hui).cell _ hsF
          have hBFi := hBF.up hui
          have HT9 := hid (HSL.out i hil)
          have HTk : Hid (((slL k l x).take i).length < 1000000) := hid (by rw [List.length_take]; omega)
          have e1 : IntKind.i64.wrap ((i : Int) + 1) = (i : Int) + 1 := IntWalk.i64_in _ (by omega)
          have hszi := hui.size
          clear hLFe htF hWF hsF hE x2 hcF hLF
          generalize slX k l x i = z at *
          go_wp2_with (first
            | ((with_reducible apply ldW_P); exact rfl; exact rfl; exact HRng.out _ hBFi)
            | ((with_reducible apply bsW_P); exact rfl)
            | ((with_reducible apply appW (l := (slL k l x).take i) (m := [z])); exact rfl; exact rfl; exact OwnW.up (Up.alloc _ _) hN; exact one_range rfl; (focus (simp; omega)); exact HTk.out; (focus (simp; done)); rintro v6 w6 hO6 - hb6))
          go_roundg (k - (i + 1))
          case measure => omega
          case rel => exact ⟨i + 1, hil, Nat.le_refl _, rfl, by rw [HT9.out]; exact hO6, Below.trans (hui.trans (Up.alloc _ _)) hb6⟩
        · obtain rfl : i = k := by omega
          rw [List.take_of_length_le (by rw [HSLn.out]; exact Nat.le_refl _)] at hN
          have hRow := HRow.out.up hui
          have hQr := hQ.up hui
          have hur := hu.trans hui
          have hszO := hu.size
          obtain ⟨pn, cn, rfl⟩ := hN.slice
          go_wp2_with fail
          refine opU (S := (fun wq => Up wr wq ∧ Below w.heap.size w wq)) (req := (fun j => j != 3)) (fun _ _ h hu => ⟨(h.1).trans hu, below_up (h.2) hu⟩) ⟨(by first | exact Up.refl _ | assumption), gUp⟩ (fun wS hSS hSu => ?_)
          have ⟨hS1, hSB⟩ := hSS
          refine tkP 0 (some 45) hSu ?_
          refine tkT 1 (some 46) rfl hSu hSS ?_ (hy := fun w' hSw => run_ld undW infoW _ rfl _ rfl (hRow.up hSw.1))
          refine tkP 2 (some 4) hSu ?_
          refine wpAnyU_one (i := 3) rfl (by kernel_rfl) (by rfl) fun wX hwX => ?_
          refine wp_st_rowN infoW rfl _ _ rfl _ rfl rfl ((hQr.up (hS1.trans hwX))) ?_
          refine ⟨fun h => by simp at h, ?_⟩
          try simp only [Act.put, pu1, pu2, pu3]
          refine wpAnyU_done (by kernel_rfl) (fun wF huE => ?_) _
          have hUG := hS1.trans hwX
          have gQ := ((hQr.up hUG).setRow (limb (enc (slD i l)))).up huE
          have gU := Up.trans (below_setRow (hur.trans hUG) (show w.heap.size ≤ w.heap.size + 1 by omega) (cells 16 (limb (enc (slD i l))))) huE
          have gN := ((hN.up hUG).below (show w.heap.size + 1 < wO.heap.size by have := hQ.lt; omega) (cells 16 (limb (enc (slD i l))))).up huE
          clear hS1 hSB hSS hwX huE hUG
          go_wp2_with fail
          exact bodyPost_ret (resTC rfl _ _ rfl gQ) rfl ⟨.slice pn (slL i l x).length cn, _, rfl, gU, hszO, gN⟩
theorem infoF : (Tryz.prog.info? 73).map (fun i => (i.zero.map (·.cells.size), i.size, i.bytes)) = some (some 32, 32, 256) := by kernel_rfl
theorem infoF1 : (Tryz.prog.info? 73).map (·.size) = some 32 := by kernel_rfl
theorem undFs : Tryz.prog.underlying 59 = some (.slice 73) := by kernel_rfl
theorem undF0 : (match Tryz.prog.underlying 73 with | some (.struct _) => true | _ => false) = true := by kernel_rfl
theorem undF : ∃ fs, Tryz.prog.underlying 73 = some (.struct fs) := by
  have h := undF0
  split at h
  · rename_i fs e; exact ⟨fs, e⟩
  · cases h
def fA (z D : Int) : Array Value := cells 16 (limb (enc z)) ++ cells 16 (limb (enc D))
def fc (D z : Int) : List Value := wc z ++ wc D
def fcs (D : Int) (l : List Int) : List Value := l.flatMap (fc D)
theorem fA_list (z D : Int) : (fA z D).toList = fc D z := by unfold fA fc wc; simp
theorem fc_len (D z : Int) : (fc D z).length = 32 := by unfold fc; rw [List.length_append, wc_len, wc_len]
theorem fA_size (z D : Int) : (fA z D).size = 32 := by rw [← Array.length_toList, fA_list, fc_len]
theorem fc_one (D z : Int) : ∀ u ∈ fc D z, u.oneCell' = true := fun u hu => by
  unfold fc at hu
  rcases List.mem_append.1 hu with h | h
  · exact wc_one _ _ h
  · exact wc_one _ _ h
theorem fcs_nil (D : Int) : fcs D [] = [] := rfl
theorem fcs_cons (D z : Int) (l : List Int) : fcs D (z :: l) = fc D z ++ fcs D l := rfl
theorem fcs_append (D : Int) (l m : List Int) : fcs D (l ++ m) = fcs D l ++ fcs D m := by unfold fcs; rw [List.flatMap_append]
theorem fcs_len (D : Int) (l : List Int) : (fcs D l).length = l.length * 32 := by
  induction l with
  | nil => rfl
  | cons z l ih => rw [fcs_cons, List.length_append, fc_len, ih, List.length_cons]; omega
theorem fcs_mid {D : Int} {l : List Int} {i j : Nat} (h : i < l.length) (hj : j < 32) : (fcs D l)[i * 32 + j]? = (fc D (zth l i))[j]? := by
  have h1 : (fcs D (l.take i)).length = i * 32 := by rw [fcs_len, List.length_take]; omega
  have e := congrArg (fcs D) (zth_split h)
  rw [fcs_append, fcs_cons] at e
  rw [e, List.getElem?_append_right (by omega), h1, show i * 32 + j - i * 32 = j by omega, List.getElem?_append_left (by rw [fc_len]; exact hj)]
def OwnF (w : World) (base : Nat) (v : Value) (D : Int) (l : List Int) : Prop := w.ownsRow base 73 32 v l.length (fcs D l)
theorem OwnF.up {w w' : World} {base : Nat} {v : Value} {D : Int} {l : List Int} (hu : Up w w') (h : OwnF w base v D l) : OwnF w' base v D l := World.ownsRow.up h hu
theorem OwnF.nil (w : World) (base : Nat) (D : Int) : OwnF w base (.slice none 0 0) D [] := World.ownsRow_nil _ _ _ _
def Fv (w : World) (v : Value) (D : Int) (l : List Int) : Prop :=
  (l = [] ∧ ∃ p c, v = .slice p 0 c) ∨ ∃ g cap C, v = .slice (some ⟨g, 0, none⟩) l.length cap ∧ l.length ≤ cap ∧ Blk w g 73 C ∧ C.toList.take (l.length * 32) = fcs D l
theorem Fv.up {w w' : World} (hu : Up w w') {v : Value} {D : Int} {l : List Int} (h : Fv w v D l) : Fv w' v D l := by
  rcases h with h | ⟨g, cap, C, h1, h2, h3, h4⟩
  · exact .inl h
  · exact .inr ⟨g, cap, C, h1, h2, h3.up hu, h4⟩
theorem OwnF.fv {w : World} {base : Nat} {v : Value} {D : Int} {l : List Int} (h : OwnF w base v D l) : Fv w v D l := by
  obtain ⟨_, ⟨rfl, h0⟩ | ⟨g, cap, cur, rfl, _, hB, hc, _, _, ht⟩⟩ := h
  · exact .inl ⟨List.length_eq_zero_iff.1 h0, _, _, rfl⟩
  · exact .inr ⟨g, cap, cur, rfl, hc, hB, ht⟩
theorem Fv.nil (w : World) (D : Int) : Fv w (.slice none 0 0) D [] := .inl ⟨rfl, _, _, rfl⟩
theorem Fv.slice {w : World} {v : Value} {D : Int} {l : List Int} (h : Fv w v D l) : ∃ p c, v = .slice p l.length c := by
  rcases h with ⟨rfl, p, c, rfl⟩ | ⟨g, cap, C, rfl, _⟩
  · exact ⟨p, c, rfl⟩
  · exact ⟨_, cap, rfl⟩
theorem Fv.open {w : World} {v : Value} {D : Int} {l : List Int} (h : Fv w v D l) (h0 : 0 < l.length) :
    ∃ g cap C, v = .slice (some ⟨g, 0, none⟩) l.length cap ∧ l.length ≤ cap ∧ Blk w g 73 C ∧ C.toList.take (l.length * 32) = fcs D l := by
  rcases h with ⟨rfl, _⟩ | h
  · exact absurd h0 (by decide)
  · exact h
theorem fv_range {w : World} {g : Nat} {C : Array Value} {D : Int} {l : List Int} (hB : Blk w g 73 C) (ht : C.toList.take (l.length * 32) = fcs D l) {i : Nat} (hi : i < l.length) : w.rangeAt g (i * 32) (fc D (zth l i)) := by
  intro j v hv
  have hj : j < 32 := by have := (List.getElem?_eq_some_iff.1 hv).1; rw [fc_len] at this; exact this
  refine hB.cell _ ?_
  have h1 : (C.toList.take (l.length * 32))[i * 32 + j]? = some v := by rw [ht, fcs_mid hi hj]; exact hv
  rw [List.getElem?_take_of_lt (by omega)] at h1
  rw [← Array.getElem?_toList]
  exact h1
theorem fc_num {w : World} {g o : Nat} {D z : Int} (h : w.rangeAt g o (fc D z)) : w.rangeAt g o (wc z) := fun j v hv => by
  refine h j v ?_
  unfold fc
  rw [List.getElem?_append_left (List.getElem?_eq_some_iff.1 hv).1]
  exact hv
theorem fc_den {w : World} {g o : Nat} {D z : Int} (h : w.rangeAt g o (fc D z)) : w.rangeAt g (o + 16) (wc D) := fun j v hv => by
  have h1 := h (16 + j) v (by
    unfold fc
    rw [List.getElem?_append_right (by rw [wc_len]; omega), wc_len, show 16 + j - 16 = j by omega]
    exact hv)
  rw [Nat.add_assoc]
  exact h1
section
variable {a : Act} {w : World} {g off : Nat} {z D : Int}
theorem run_ldF {o : Oper} {ev : Operand → Value} {x : Operand} (ho : o.op = .load 73 x) (hx : ev x = .pointer (some ⟨g, off, none⟩)) (hC : w.rangeAt g off (fc D z)) :
    (execOp ev o).run Tryz.prog w = .ok (.value (.agg (fA z D))) w := by
  obtain ⟨fs, hu⟩ := undF
  unfold execOp
  simp only [ho, hx, Instr.loadAt, Instr.sureAddr, Sem.run_bind, Sem.run_pure, Result.andThen_ok, run_loadVar_mid w g off _ (fc D z) _ hC hu rfl (by rw [infoF1, fc_len])]
  rw [← fA_list, Array.toArray_toList]
theorem ldF_P {ops : Array Oper} {rest : List Oper} {Q : Exit → Act → World → Prop} {d : Option Tmp} {s : Tmp} {ty : TypeId} {pos : String} {af : Array Edge} {gd : Option (Nat × Bool)} (hw : Region.wanted { dst := d, op := .load 73 (.tmp s), type := ty, pos := pos, after := af, guard := gd } (yielded ops a.tmps) = true) (hx : a.eval (.tmp s) = .pointer (some ⟨g, off, none⟩))
    (hC : w.rangeAt g off (fc D z)) (h : wpList Tryz.prog ops Q rest (a.put d (.agg (fA z D))) w) : wpList Tryz.prog ops Q ({ dst := d, op := .load 73 (.tmp s), type := ty, pos := pos, after := af, guard := gd } :: rest) a w :=
  wpList_run hw (run_ldF rfl hx hC) h
end
theorem blkF_range {w : World} {g : Nat} {z D : Int} (hB : Blk w g 73 (fA z D)) : w.rangeAt g 0 (fc D z) := fun j v hv => by
  rw [Nat.zero_add]
  refine hB.cell _ ?_
  rw [← Array.getElem?_toList, fA_list]
  exact hv
theorem fA_one (z D : Int) : (fA z D).all (·.oneCell') = true := by
  rw [Array.all_eq_true_iff_forall_mem]
  intro u hu
  exact fc_one D z u (by rw [← fA_list]; simpa using hu)
theorem stF_P {ops : Array Oper} {rest : List Oper} {Q : Exit → Act → World → Prop} {a : Act} {w : World} {d : Option Tmp} {s u : Tmp} {ty : TypeId} {pos : String} {af : Array Edge} {g : Nat} {C : Array Value} {z D : Int} (hx : a.eval (.tmp s) = .pointer (some ⟨g, 0, none⟩)) (hy : a.eval (.tmp u) = .agg (fA z D)) (hC : Blk w g 73 C) (h2 : C.size = 32)
    (h : wpList Tryz.prog ops Q rest (a.put d undef) (w.setRow g (fA z D))) :
    wpList Tryz.prog ops Q ({ dst := d, op := .store 73 (.tmp s) (.tmp u), type := ty, pos := pos, after := af, guard := none } :: rest) a w :=
  wpList_plain rfl fun _ hK => wp_store_row _ _ _ rfl g (fA z D) hx hy _ C hC (by rw [infoF1, fA_size]) (by rw [h2, fA_size]) (fA_one z D) (hK _ _ h)
theorem run_buildF (f g : Nat → Nat) (w : World) : (Instr.build 73 #[(0, .agg (cells 16 f)), (1, .agg (cells 16 g))]).run Tryz.prog w = .ok (.agg (cells 16 f ++ cells 16 g)) w := by
  unfold cells
  kernel_rfl
theorem bdF_P {ops : Array Oper} {rest : List Oper} {Q : Exit → Act → World → Prop} {a : Act} {w : World} {d : Option Tmp} {s u : Tmp} {ty : TypeId} {pos : String} {af : Array Edge} {gd : Option (Nat × Bool)} {z D : Int}
    (hw : Region.wanted { dst := d, op := .build 73 #[(0, .tmp s), (1, .tmp u)], type := ty, pos := pos, after := af, guard := gd } (yielded ops a.tmps) = true) (hs : a.eval (.tmp s) = .agg (cells 16 (limb (enc z)))) (hu : a.eval (.tmp u) = .agg (cells 16 (limb (enc D))))
    (h : wpList Tryz.prog ops Q rest (a.put d (.agg (fA z D))) w) :
    wpList Tryz.prog ops Q ({ dst := d, op := .build 73 #[(0, .tmp s), (1, .tmp u)], type := ty, pos := pos, after := af, guard := gd } :: rest) a w := by
  refine wpList_run hw ?_ h
  unfold execOp
  simp only [List.map_toArray, List.map_cons, List.map_nil, hs, hu, Sem.run_bind, run_buildF, Result.andThen_ok, Sem.run_pure]
  rfl
theorem fill_oneF (f h : Nat → Nat) (z : Array Value) : Instr.fill (fun i => some (i * 32, 32)) ((Array.range (1 * 32)).map (z[· % z.size]!)) [(0, .agg (cells 16 f ++ cells 16 h))] = some (cells 16 f ++ cells 16 h) := by
  unfold cells
  kernel_rfl
theorem bsF_P {ops : Array Oper} {rest : List Oper} {Q : Exit → Act → World → Prop} {a : Act} {w : World} {d : Option Tmp} {s : Tmp} {ty : TypeId} {pos : String} {af : Array Edge} {z D : Int} (hs : a.eval (.tmp s) = .agg (fA z D))
    (h : wpList Tryz.prog ops Q rest (a.put d (.slice (some ⟨w.heap.size, 0, none⟩) 1 1)) (w.alloc (.cells (fA z D) 73))) :
    wpList Tryz.prog ops Q ({ dst := d, op := .buildSlice 59 1 #[(0, .tmp s)], type := ty, pos := pos, after := af, guard := none } :: rest) a w := by
  obtain ⟨i0, hi0, he⟩ := Option.map_eq_some_iff.1 infoF
  simp only [Prod.mk.injEq] at he
  obtain ⟨z0, hz0, hzs⟩ := Option.map_eq_some_iff.1 he.1
  refine wpList_buildSlice rfl 59 73 1 _ rfl (fA z D) i0 z0 undFs hi0 hz0 (by rw [he.2.1]; decide) (by rw [he.2.1]; decide) ?_ h
  simp only [List.map_toArray, List.map_cons, List.map_nil, hs, he.2.1]
  exact fill_oneF _ _ _
theorem appF {ops : Array Oper} {rest : List Oper} {Q : Exit → Act → World → Prop} {a : Act} {w : World} {d : Option Tmp} {s u : Operand} {ty : TypeId} {pos : String} {af : Array Edge} {base g c : Nat} {v : Value} {D z : Int} {l : List Int}
    (hs : a.eval s = v) (hu : a.eval u = .slice (some ⟨g, 0, none⟩) 1 c) (hown : OwnF w base v D l) (hV : w.rangeAt g 0 (fc D z)) (hbase : base ≤ w.heap.size) (hl : l.length < 1000000)
    (h : ∀ v' w', OwnF w' base v' D (l ++ [z]) → w.grownBy w' v.ownBlock → Below base w w' → wpList Tryz.prog ops Q rest (a.put d v') w') :
    wpList Tryz.prog ops Q ({ dst := d, op := .call { callee := .builtin .append, args := #[s, u], argTypes := #[59, 59] }, type := ty, pos := pos, after := af, guard := none } :: rest) a w := by
  obtain ⟨i0, hi0, he⟩ := Option.map_eq_some_iff.1 infoF
  simp only [Prod.mk.injEq] at he
  obtain ⟨z0, hz0, hzs⟩ := Option.map_eq_some_iff.1 he.1
  have hlt := World.ownsRow.lt hown
  refine wpList_append_own w rfl s u 59 rfl base 73 i0 z0 32 256 undFs hi0 hz0 he.2.1 he.2.2 hzs (by decide) v l.length (fcs D l) hs hown ⟨g, 0, none⟩ 1 c (fc D z) hu (fc_len D z) (fun j x hx => by rw [Addr.add_mid]; exact hV j x hx) (fc_one D z) (by unfold maxLen; omega) (by omega) hbase ?_
  intro v' w' h1 h2 _
  refine h v' w' (by unfold OwnF; rw [List.length_append, fcs_append]; rw [show fcs D [z] = fc D z from by rw [fcs_cons, fcs_nil, List.append_nil]]; exact h1) h2 ⟨h2.os, h2.tape, h2.output, h2.size, fun k hk => h2.block k (by omega) fun e => ?_⟩
  have := hlt k e.symm
  omega
theorem slC_def {N : Int} {l x : List Int} (h : slC N l x = 0) : ∃ n : Nat, N = (n : Int) ∧ Def n l x ∧ x.length = n := by
  unfold slC at h
  by_cases h1 : ftC N l [x] = 0
  · rw [if_pos h1] at h
    unfold ftC at h1
    by_cases h2 : rt N l = true ∧ ∀ i, i < [x].length → (([x].getD i []).length : Int) = N
    · rw [if_pos h2] at h1
      by_cases h3 : ∀ i, i < [x].length → ([x].getD i []).all vfit = true
      · by_cases h4 : dfV N l = true
        · obtain ⟨n0, n8, _, _⟩ := rt_spec h2.1
          obtain ⟨n, rfl⟩ : ∃ n : Nat, N = (n : Int) := ⟨N.toNat, by omega⟩
          have hx : x.length = n := by have := h2.2 0 (by simp); simp at this; omega
          have h5 := h3 0 (by simp)
          refine ⟨n, rfl, ⟨h2.1, ?_, fun i => ?_⟩, hx⟩
          · unfold dfV at h4
            have h6 := (Bool.and_eq_true_iff.1 h4).1
            have e : mnR (n : Int) l = mins n 1 (AM n l) := by unfold mnR; rw [if_pos h2.1]; rfl
            rw [e] at h6
            intro y hy
            exact of_decide_eq_true (List.all_eq_true.1 h6 y hy)
          · by_cases hi : i < x.length
            · have h7 := List.all_eq_true.1 h5 (zth x i) (by rw [zth_get hi]; exact List.getElem_mem _)
              exact of_decide_eq_true h7
            · rw [zth_far (by omega)]; simp
        · rw [if_neg h4] at h; omega
      · rw [if_neg h3] at h1; omega
    · rw [if_neg h2] at h1; omega
  · rw [if_neg h1] at h; exact absurd h h1
def exL (N : Int) (l x : List Int) : List Int := if slC N l x = 0 then slL N.toNat l x else []
def ExactPost (w : World) (N : Int) (l x : List Int) (r : Ending) (w' : World) : Prop := ∃ z u, r = .returned (.tuple #[z, u]) ∧ Up w w' ∧ Fv w' z (slD N.toNat l) (exL N l x) ∧ (slC N l x ≠ 0 → z = .slice none 0 0) ∧ ErrsP solveB w' u (slC N l x)
set_option maxHeartbeats 16000000 in
theorem exact_any {v xv : Value} {N : Int} {l x : List Int} {w : World} (hm : Sm w v N l) (hx : Vw w xv x) (hI : In64 x) (hs : x.length ≤ 1000) :
    Calls Tryz.prog 26 #[v, xv] w (ExactPost w N l x) := by
  have HSO := hid (fun w' (hu : Up w w') => solvable_any (hm.up hu) (hx.up hu) hI hs)
  have HSN := hid (fun (n : Nat) (hN : N = (n : Int)) (hD : Def n l x) (hxl : x.length = n) w' (hu : Up w w') => solution_any (hN ▸ hm.up hu) hD (hx.up hu) hxl hI)
  obtain ⟨px, cx, rfl, -, -⟩ := hx
  obtain ⟨s, rfl, ⟨p, cap, rfl, -, -⟩, -, -, -⟩ := hm
  obtain ⟨W0, hW0⟩ : ∃ W0, w.alloc (.cells #[.int .i64 N, .slice p l.length cap] 24) = W0 := ⟨_, rfl⟩
  have hB : Blk W0 w.heap.size 24 #[.int .i64 N, .slice p l.length cap] := by rw [← hW0]; exact Blk.new _ _ rfl
  have hU : Up w W0 := by rw [← hW0]; exact Up.alloc _ _
  unfold ExactPost
  obtain ⟨C, hC⟩ : ∃ C, slC N l x = C := ⟨_, rfl⟩
  obtain ⟨EX, hEX⟩ : ∃ y, exL N l x = y := ⟨_, rfl⟩
  obtain ⟨D, hDD⟩ : ∃ y, slD N.toNat l = y := ⟨_, rfl⟩
  have HC := hid hC
  have HEX := hid hEX
  have HDD := hid hDD
  rw [hC] at HSO ⊢
  rw [hEX, hDD]
  clear hC hI hs hEX hDD
  go_enter Tryz.func26, Tryz.ntmps26
  go_upto_region 2 with (first
    | ((with_reducible apply ldM_P); exact rfl; exact rfl; exact hB; exact rfl)
    | (go_at_call 61; (with_reducible refine (HSO.out _ hU).mono ?_); rintro r w1 ⟨u1, rfl, hu1, h1⟩; have hB1 := hB.up hu1; have hU1 := hU.trans hu1))
  rcases h1 with ⟨h0, rfl⟩ | ⟨h0, t, y, rfl, hE⟩
  · obtain ⟨n, rfl, hD, hxl⟩ := slC_def (HC.out.trans h0)
    have hex : EX = slL n l x := by rw [← HEX.out]; unfold exL; rw [if_pos (HC.out.trans h0)]; rfl
    have HE2 := hid hex
    have HD2 : Hid (slD n l = D) := hid HDD.out
    have hn8 := hD.n8
    have HSN2 := hid (HSN.out n rfl hD hxl)
    rw [hxl] at HSN2 ⊢
    have hln : (slL n l x).length = n := mk_len _ _
    have HLn := hid hln
    have HSL := hid (fun i (hi : i < n) => show (slL n l x).take (i + 1) = (slL n l x).take i ++ [slX n l x i] from mk_take_succ (fun i => slX n l x i) hi)
    have HAt := hid (fun i (hi : i < n) => show zth (slL n l x) i = slX n l x i from mk_at hi)
    have H0 := hid h0
    clear HSN hD hxl hex h0 hln
    rw [HD2.out] at HSN2
    unfold wideV at *
    go_wp2_with (first
      | ((with_reducible apply ldM_P); exact rfl; exact rfl; exact hB1; exact rfl)
      | (go_at_call 62; (with_reducible refine (HSN2.out _ hU1).mono ?_); rintro r w2 ⟨z2, b2, rfl, hu2, hb2, hO2⟩; obtain ⟨pz, cz, rfl⟩ := hO2.slice; have hU2 := hU1.trans hu2)
      | ((with_reducible apply st_rowP infoW); exact rfl; exact rfl; exact row_newz _ rfl
         refine wpL_folded (fun wd => Up w2 wd ∧ Row wd w2.heap.size 33 16 (limb (enc D))) ⟨gUp, gRow⟩ ?_
         rintro wL ⟨hXL, hDen⟩
         have hO3 := hO2.up hXL
         have hU3 := hU2.trans hXL))
    rw [HLn.out] at hO3 ⊢
    obtain ⟨bD, hbD⟩ : ∃ y, w2.heap.size = y := ⟨_, rfl⟩
    rw [hbD] at hDen ⊢
    have HO3 := hid hO3
    clear hO3 hO2 hXL hU2 hu2 hb2 hW0 hB hU hB1 hu1 hU1 HSO HSN2 hbD
    go_wp2_with fail
    go_loopg [9, 26] n (fun g ta ti wr => ∃ i : Nat, i ≤ n ∧ n - i ≤ g ∧ ti = .int .i64 (i : Nat) ∧ OwnF wr wL.heap.size ta D ((slL n l x).take i) ∧ Up wL wr)
    case atStart => exact ⟨0, Nat.zero_le _, by omega, rfl, by rw [List.take_zero]; exact OwnF.nil _ _ _, Up.refl _⟩
    case round =>
      obtain ⟨i, hi, hig, rfl, hO, hu⟩ := hrel
      have hszu := hu.size
      by_cases hlt : i < n
      · obtain ⟨gZ, cZ, CZ, hv, -, hBZ, -, -, -, htZ⟩ := HO3.out.open (by rw [HLn.out]; omega)
        injection hv with x1 x2 x3
        subst x1 x3
        have HRng : Hid (∀ w', Blk w' gZ 33 CZ → w'.rangeAt gZ (i * 16) (wc (slX n l x i))) := hid (fun w' hB => HAt.out i hlt ▸ wv_range hB htZ (by rw [HLn.out]; exact hlt))
        have hBZr := hBZ.up hu
        have hDr := hDen.up hu
        have e1 : IntKind.i64.wrap ((i : Int) + 1) = (i : Int) + 1 := IntWalk.i64_in _ (by omega)
        have HT9 := hid (HSL.out i hlt)
        have HTk : Hid (((slL n l x).take i).length < 1000000) := hid (by rw [List.length_take]; omega)
        clear htZ x2 hBZ
        generalize slX n l x i = z at *
        go_wp2_with (first
          | ((with_reducible apply ldW_P); exact rfl; exact rfl; exact HRng.out _ hBZr)
          | ((with_reducible apply ld_rowP undW infoW); exact rfl; exact rfl; exact gRow)
          | ((with_reducible apply st_rowP infoW); exact rfl; exact rfl; exact row_newz _ rfl
             refine wpL_folded (fun wd => Up wr wd ∧ Row wd wr.heap.size 33 16 (limb (enc z))) ⟨gUp, gRow⟩ ?_
             rintro wM ⟨hXM, hNum⟩
             have hDm := hDr.up hXM)
          | ((with_reducible apply bdF_P (z := z) (D := D)); exact rfl; exact rfl; exact rfl)
          | ((with_reducible apply bsF_P (z := z) (D := D)); exact rfl)
          | ((with_reducible apply appF (l := (slL n l x).take i) (z := z)); exact rfl; exact rfl; exact OwnF.up (hXM.trans (Up.alloc _ _)) hO; exact blkF_range (Blk.new _ _ rfl); (focus (have := hXM.size; simp; omega)); exact HTk.out; rintro v6 w6 hO6 - hb6))
        go_roundg (n - (i + 1))
        case measure => omega
        case rel => exact ⟨i + 1, hlt, Nat.le_refl _, rfl, by rw [HT9.out]; exact hO6, Below.trans (hu.trans (hXM.trans (Up.alloc _ _))) hb6⟩
      · obtain rfl : i = n := by omega
        rw [List.take_of_length_le (by rw [HLn.out]; exact Nat.le_refl _)] at hO
        go_wp2_with fail
        go_ret2
        exact ⟨_, _, rfl, hU3.trans hu, by rw [HE2.out]; exact hO.fv, fun h => absurd H0.out h, .inl ⟨H0.out, rfl⟩⟩
  · have HC2 := hid h0
    have HE2 : Hid (EX = []) := hid (by rw [← HEX.out]; unfold exL; rw [HC.out]; exact if_neg h0)
    clear h0
    go_wp2_with fail
    go_ret2
    exact ⟨_, _, rfl, hU1, by rw [HE2.out]; exact Fv.nil _ _, fun _ => rfl, .inr ⟨HC2.out, t, y, rfl, hE⟩⟩
def nrN (D z : Int) : Int := (2 * z + D) / (2 * D)
theorem round_any {z D : Int} (hz : z.natAbs < bp 5) (hD : D.natAbs < bp 5) (h0 : 0 < D) (w : World) :
    Calls Tryz.prog 99 #[wideV (enc z), wideV (enc D)] w fun r w' => r = .returned (.tuple #[wideV (enc (nrN D z)), .bool true]) ∧ Up w w' := by
  have e6 : bp 6 = bp 5 * 18446744073709551616 := bp_succ 5
  have i1 : InR (z + z) := inR_bp (k := 6) (by omega) (by omega)
  have i2 : InR (D + D) := inR_bp (k := 6) (by omega) (by omega)
  have i3 : InR (z + z + D) := inR_bp (k := 6) (by omega) (by omega)
  have h := round_z (inR_bp (by omega) hz) (inR_bp (by omega) hD) (fun _ _ h2 h3 w => divide_any (enc_natAbs h3).2 (enc_natAbs h2).2 (by omega) w) w
  rw [show roundV z D = .tuple #[wideV (enc (nrN D z)), .bool true] from by unfold roundV nrN; rw [if_pos ⟨h0, i1, i2, i3⟩]] at h
  exact h
theorem nrN_in {z D : Int} (hz : z.natAbs < bp 5) (h0 : 0 < D) : InR (nrN D z) := by
  unfold nrN
  have e6 : bp 6 = bp 5 * 18446744073709551616 := bp_succ 5
  refine inR_bp (k := 6) (by omega) ?_
  have h1 : -(2 * z.natAbs : Nat) ≤ ((2 * z + D) / (2 * D)) := by
    refine (Int.le_ediv_iff_mul_le (by omega)).2 ?_
    have h2 : -((2 * z.natAbs : Nat) : Int) * (2 * D) ≤ -((2 * z.natAbs : Nat) : Int) * 1 := Int.mul_le_mul_of_nonpos_left (by omega) (by omega)
    omega
  have h3 : ((2 * z + D) / (2 * D)) ≤ ((2 * z.natAbs + 1 : Nat) : Int) := by
    refine Int.le_of_lt_add_one ((Int.ediv_lt_iff_lt_mul (by omega)).2 ?_)
    have h2 : (((2 * z.natAbs + 1 : Nat) : Int) + 1) * D ≤ (((2 * z.natAbs + 1 : Nat) : Int) + 1) * (2 * D) := Int.mul_le_mul_of_nonneg_left (by omega) (by omega)
    have h4 : ((2 * z.natAbs : Nat) : Int) * 1 ≤ ((2 * z.natAbs : Nat) : Int) * D := Int.mul_le_mul_of_nonneg_left (by omega) (by omega)
    have h5 : (((2 * z.natAbs + 1 : Nat) : Int) + 1) * D = ((2 * z.natAbs : Nat) : Int) * D + 2 * D := by
      rw [show ((2 * z.natAbs + 1 : Nat) : Int) + 1 = ((2 * z.natAbs : Nat) : Int) + 2 by omega, Int.add_mul]
    omega
  omega
set_option maxHeartbeats 4000000 in
theorem nearest_any {z D : Int} (hz : z.natAbs < bp 5) (hD : D.natAbs < bp 5) (h0 : 0 < D) (w : World) :
    Calls Tryz.prog 64 #[.agg (fA z D)] w fun r w' => r = .returned (i64V (nrN D z)) ∧ Up w w' := by
  have HR := hid (fun w => round_any hz hD h0 w)
  have HI := hid (fun w => int64_z (nrN_in hz h0) w)
  obtain ⟨wS, hwS⟩ : ∃ x, w.alloc (.cells (fA z D) 73) = x := ⟨_, rfl⟩
  have hB : Blk wS w.heap.size 73 (fA z D) := by rw [← hwS]; exact Blk.new _ _ rfl
  have hU : Up w wS := by rw [← hwS]; exact Up.alloc _ _
  have hN := fc_num (blkF_range hB)
  have hDn := fc_den (blkF_range hB)
  rw [Nat.zero_add] at hDn
  have HN := hid hN
  have HDn := hid hDn
  obtain ⟨n, hn⟩ : ∃ n, nrN D z = n := ⟨_, rfl⟩
  rw [hn] at HR HI ⊢
  obtain ⟨y, ok, hy⟩ : ∃ y ok, i64V n = .tuple #[.int .i64 y, .bool ok] := ⟨_, _, rfl⟩
  rw [hy] at HI ⊢
  clear hn hy hN hDn hz hD h0 hB
  unfold wideV at *
  go_enter Tryz.func64, Tryz.ntmps64
  go_wp2_with (first
    | ((with_reducible apply ldW_P); exact rfl; exact rfl; (first | exact HN.out | exact HDn.out))
    | ((with_reducible apply ld_rowP undW infoW); exact rfl; exact rfl; exact gRow)
    | ((with_reducible apply st_rowP infoW); exact rfl; exact rfl; exact row_newz _ rfl
       refine wpL_folded (fun wd => Up w1 wd ∧ Row wd w1.heap.size 33 16 (limb (enc n))) ⟨gUp, gRow⟩ ?_
       rintro wL ⟨hXL, hL⟩)
    | (go_at_call 99; (with_reducible refine (HR.out _).mono ?_); rintro r w1 ⟨rfl, hu1⟩)
    | (go_at_call 96; (with_reducible refine (HI.out _).mono ?_); rintro r w2 ⟨rfl, hu2⟩))
  go_ret2
  exact ⟨rfl, (hU.trans hu1).trans (hXL.trans hu2)⟩
def nrL (n : Nat) (l x : List Int) : List Int := mk n fun i => nrN (slD n l) (slX n l x i)
def neC (N : Int) (l x : List Int) : Int := if slC N l x = 0 then (if (nrL N.toNat l x).all vfit = true then 0 else 21) else slC N l x
def neL (N : Int) (l x : List Int) : List Int := if neC N l x = 0 then nrL N.toNat l x else []
def NearPost (w : World) (N : Int) (l x : List Int) (r : Ending) (w' : World) : Prop := ∃ z u, r = .returned (.tuple #[z, u]) ∧ Up w w' ∧ Vw w' z (neL N l x) ∧ (neC N l x ≠ 0 → z = .slice none 0 0) ∧ ErrsP solveB w' u (neC N l x)
theorem vw_nil (w : World) : Vw w (.slice none 0 0) [] := ⟨_, _, rfl, ⟨Nat.le_refl _, fun _ => rfl⟩, fun _ hi => absurd hi (Nat.not_lt_zero _)⟩
set_option maxHeartbeats 16000000 in
theorem near_sol {v xv : Value} {N : Int} {l x : List Int} {w : World} (hm : Sm w v N l) (hx : Vw w xv x) (hI : In64 x) (hs : x.length ≤ 1000) :
    Calls Tryz.prog 28 #[v, xv] w (NearPost w N l x) := by
  have HEX := hid (fun w' (hu : Up w w') => exact_any (hm.up hu) (hx.up hu) hI hs)
  have HW21 := hid (fun w => swrong_any 21 (by decide) w)
  obtain ⟨px, cx, rfl, -, -⟩ := hx
  obtain ⟨s, rfl, ⟨p, cap, rfl, -, -⟩, -, -, -⟩ := hm
  obtain ⟨W0, hW0⟩ : ∃ W0, w.alloc (.cells #[.int .i64 N, .slice p l.length cap] 24) = W0 := ⟨_, rfl⟩
  have hB : Blk W0 w.heap.size 24 #[.int .i64 N, .slice p l.length cap] := by rw [← hW0]; exact Blk.new _ _ rfl
  have hU : Up w W0 := by rw [← hW0]; exact Up.alloc _ _
  unfold NearPost
  unfold ExactPost at HEX
  obtain ⟨S, hS⟩ : ∃ S, slC N l x = S := ⟨_, rfl⟩
  obtain ⟨C, hC⟩ : ∃ C, neC N l x = C := ⟨_, rfl⟩
  obtain ⟨E, hE⟩ : ∃ E, neL N l x = E := ⟨_, rfl⟩
  obtain ⟨X, hX⟩ : ∃ X, exL N l x = X := ⟨_, rfl⟩
  obtain ⟨D, hD⟩ : ∃ D, slD N.toNat l = D := ⟨_, rfl⟩
  have HS := hid hS
  have HC := hid hC
  have HE := hid hE
  have HX := hid hX
  have HD := hid hD
  rw [hS, hX, hD] at HEX
  rw [hC, hE]
  clear hS hC hE hX hD hI hs
  go_enter Tryz.func28, Tryz.ntmps28
  go_upto_region 2 with (first
    | ((with_reducible apply ldM_P); exact rfl; exact rfl; exact hB; exact rfl)
    | (go_at_call 26; (with_reducible refine (HEX.out _ hU).mono ?_); rintro r w1 ⟨z1, u1, rfl, hu1, hF1, hz1, h1⟩; obtain ⟨pz, cz, rfl⟩ := hF1.slice; have hU1 := hU.trans hu1))
  rcases h1 with ⟨h0, rfl⟩ | ⟨h0, t, y, rfl, hEr⟩
  · obtain ⟨n, rfl, hDf, hxl⟩ := slC_def (HS.out.trans h0)
    have hXe : X = slL n l x := by rw [← HX.out]; unfold exL; rw [if_pos (HS.out.trans h0)]; rfl
    have hn8 := hDf.n8
    have hln : X.length = n := by rw [hXe]; exact mk_len _ _
    have HLn := hid hln
    have hDe : D = slD n l := HD.out.symm
    have HAt := hid (fun i (hi : i < n) => show zth X i = slX n l x i from by rw [hXe]; exact mk_at hi)
    have HB5 := hid (fun i => hDf.num_bp i)
    have HDb : Hid (D.natAbs < bp 5 ∧ 0 < D) := hid (by rw [hDe]; exact ⟨hDf.den_bp, hDf.den_pos⟩)
    have hNl : (nrL n l x).length = n := mk_len _ _
    have HNl := hid hNl
    have HNt := hid (fun i (hi : i < n) => show (nrL n l x).take (i + 1) = (nrL n l x).take i ++ [nrN D (slX n l x i)] from by rw [hDe]; exact mk_take_succ (fun i => nrN (slD n l) (slX n l x i)) hi)
    have HNa := hid (fun i (hi : i < n) => show zth (nrL n l x) i = nrN D (slX n l x i) from by rw [hDe]; exact mk_at hi)
    have HC2 : Hid (C = if (nrL n l x).all vfit = true then 0 else 21) := hid (by rw [← HC.out]; unfold neC; rw [if_pos (HS.out.trans h0)]; rfl)
    have HE2 : Hid (E = if C = 0 then nrL n l x else []) := hid (by rw [← HE.out, ← HC.out]; rfl)
    rw [hln] at hz1 ⊢
    have HF1 := hid hF1
    clear hz1 hXe hln hDe hDf hxl hNl h0 hF1
    obtain ⟨R, hR⟩ : ∃ R, nrL n l x = R := ⟨_, rfl⟩
    rw [hR] at HNl HNt HNa HC2 HE2
    clear hR
    go_wp2_with fail
    clear hW0 hB hU HEX hu1
    go_loopg [8, 24] n (fun g ta ti wr => ∃ i : Nat, i ≤ n ∧ n - i ≤ g ∧ ti = .int .i64 (i : Nat) ∧ OwnI wr w1.heap.size ta (R.take i) ∧ (∀ j, j < i → vfit (zth R j) = true) ∧ Up w1 wr)
    case atStart => exact ⟨0, Nat.zero_le _, by omega, rfl, by rw [List.take_zero]; exact OwnI.nil _ _, fun j hj => absurd hj (Nat.not_lt_zero _), Up.refl _⟩
    case round =>
      obtain ⟨i, hi, hig, rfl, hO, hz, hu⟩ := hrel
      have HZ := hid hz
      clear hz
      have hszu := hu.size
      by_cases hlt : i < n
      · obtain ⟨gZ, cZ, CZ, hv, -, hBZ, htZ⟩ := HF1.out.open (by rw [HLn.out]; omega)
        rw [HLn.out] at hv
        injection hv with x1 x2 x3
        subst x1 x3
        have HRng : Hid (∀ w', Blk w' gZ 73 CZ → w'.rangeAt gZ (i * 32) (fc D (slX n l x i))) := hid (fun w' hB => HAt.out i hlt ▸ fv_range hB htZ (by rw [HLn.out]; exact hlt))
        have hBZr := hBZ.up hu
        have e1 : IntKind.i64.wrap ((i : Int) + 1) = (i : Int) + 1 := IntWalk.i64_in _ (by omega)
        have HT9 := hid (HNt.out i hlt)
        have HA9 := hid (HNa.out i hlt)
        have HTk : Hid ((R.take i).length < 1000000) := hid (by rw [List.length_take]; omega)
        have HN := hid (fun w => nearest_any (HB5.out i) HDb.out.1 HDb.out.2 w)
        clear htZ x2 hBZ
        obtain ⟨z, hz⟩ : ∃ z, slX n l x i = z := ⟨_, rfl⟩
        rw [hz] at HRng HT9 HA9 HN
        clear hz
        obtain ⟨m, hm⟩ : ∃ m, nrN D z = m := ⟨_, rfl⟩
        rw [hm] at HT9 HA9 HN
        clear hm
        by_cases hok : I64 m
        · rw [i64V_yes hok] at HN
          have HFi := hid (fun w => sfits_any hok w)
          cases hf : vfit m with
          | true =>
            rw [hf] at HFi
            have Hf := hid hf
            clear hf hok
            go_wp2_with (first
              | ((with_reducible apply ldF_P (z := z) (D := D)); exact rfl; exact rfl; (first | exact HRng.out _ hBZr | exact blkF_range hF))
              | ((with_reducible apply stF_P (z := z) (D := D)); exact rfl; exact rfl; exact Blk.new _ _ rfl; exact rfl
                 refine wpL_folded (fun wd => Up wr wd ∧ Blk wd wr.heap.size 73 (fA z D)) ⟨gUp, Blk.setRow (Blk.new _ _ rfl) _⟩ ?_
                 rintro wM ⟨hXM, hF⟩)
              | (go_at_call 64; (with_reducible refine (HN.out _).mono ?_); rintro r w2 ⟨rfl, hu2⟩)
              | (go_at_call 65; (with_reducible refine (HFi.out _).mono ?_); rintro r w3 ⟨rfl, hu3⟩)
              | ((with_reducible apply appV); exact rfl; exact rfl; exact OwnI.up (((hXM.trans hu2).trans hu3).trans (Up.alloc _ _)) hO; exact vw_one _ _; (focus (have := ((hXM.trans hu2).trans hu3).size; simp; omega)); exact HTk.out; (focus (simp; done)); rintro v6 w6 hO6 hb6))
            go_roundg (n - (i + 1))
            case measure => omega
            case rel => exact ⟨i + 1, hlt, Nat.le_refl _, rfl, by rw [HT9.out]; exact hO6, fun j hj => by
              rcases Nat.lt_succ_iff_lt_or_eq.1 hj with h | h
              · exact HZ.out j h
              · rw [h, HA9.out]; exact Hf.out, Below.trans (hu.trans (((hXM.trans hu2).trans hu3).trans (Up.alloc _ _))) hb6⟩
          | false =>
            rw [hf] at HFi
            have HC3 : Hid (C = 21) := hid (by
              rw [HC2.out]
              refine if_neg fun h => ?_
              have h1 := List.all_eq_true.1 h (zth R i) (by rw [zth_get (by rw [HNl.out]; exact hlt)]; exact List.getElem_mem _)
              rw [HA9.out, hf] at h1
              cases h1)
            have HE3 : Hid (E = []) := hid (by rw [HE2.out, HC3.out]; rfl)
            clear hf hok
            go_wp2_with (first
              | ((with_reducible apply ldF_P (z := z) (D := D)); exact rfl; exact rfl; (first | exact HRng.out _ hBZr | exact blkF_range hF))
              | ((with_reducible apply stF_P (z := z) (D := D)); exact rfl; exact rfl; exact Blk.new _ _ rfl; exact rfl
                 refine wpL_folded (fun wd => Up wr wd ∧ Blk wd wr.heap.size 73 (fA z D)) ⟨gUp, Blk.setRow (Blk.new _ _ rfl) _⟩ ?_
                 rintro wM ⟨hXM, hF⟩)
              | (go_at_call 64; (with_reducible refine (HN.out _).mono ?_); rintro r w2 ⟨rfl, hu2⟩)
              | (go_at_call 65; (with_reducible refine (HFi.out _).mono ?_); rintro r w3 ⟨rfl, hu3⟩)
              | (go_at_call 66; (with_reducible refine (HW21.out _).mono ?_); rintro r w4 ⟨u4, rfl, hu4, h4⟩))
            go_ret2
            exact ⟨_, _, rfl, (hU1.trans hu).trans (((hXM.trans hu2).trans hu3).trans hu4), by rw [HE3.out]; exact vw_nil _, fun _ => rfl, by rw [HC3.out]; exact h4⟩
        · have hf : vfit m = false := by unfold vfit; unfold I64 at hok; exact decide_eq_false (by omega)
          rw [i64V_no hok] at HN
          have HC3 : Hid (C = 21) := hid (by
            rw [HC2.out]
            refine if_neg fun h => ?_
            have h1 := List.all_eq_true.1 h (zth R i) (by rw [zth_get (by rw [HNl.out]; exact hlt)]; exact List.getElem_mem _)
            rw [HA9.out, hf] at h1
            cases h1)
          have HE3 : Hid (E = []) := hid (by rw [HE2.out, HC3.out]; rfl)
          clear hf hok
          go_wp2_with (first
            | ((with_reducible apply ldF_P (z := z) (D := D)); exact rfl; exact rfl; (first | exact HRng.out _ hBZr | exact blkF_range hF))
            | ((with_reducible apply stF_P (z := z) (D := D)); exact rfl; exact rfl; exact Blk.new _ _ rfl; exact rfl
               refine wpL_folded (fun wd => Up wr wd ∧ Blk wd wr.heap.size 73 (fA z D)) ⟨gUp, Blk.setRow (Blk.new _ _ rfl) _⟩ ?_
               rintro wM ⟨hXM, hF⟩)
            | (go_at_call 64; (with_reducible refine (HN.out _).mono ?_); rintro r w2 ⟨rfl, hu2⟩)
            | (go_at_call 66; (with_reducible refine (HW21.out _).mono ?_); rintro r w4 ⟨u4, rfl, hu4, h4⟩))
          go_ret2
          exact ⟨_, _, rfl, (hU1.trans hu).trans ((hXM.trans hu2).trans hu4), by rw [HE3.out]; exact vw_nil _, fun _ => rfl, by rw [HC3.out]; exact h4⟩
      · obtain rfl : i = n := by omega
        have hall : R.all vfit = true := List.all_eq_true.2 fun y hy => by
          obtain ⟨j, hj, rfl⟩ := List.mem_iff_getElem.1 hy
          have := HZ.out j (by rw [← HNl.out]; exact hj)
          rw [zth_get hj] at this
          exact this
        have HC3 : Hid (C = 0) := hid (by rw [HC2.out]; exact if_pos hall)
        have HE3 : Hid (E = R) := hid (by rw [HE2.out, HC3.out]; rfl)
        rw [List.take_of_length_le (by rw [HNl.out]; exact Nat.le_refl _)] at hO
        clear hall
        go_wp2_with fail
        go_ret2
        exact ⟨_, _, rfl, hU1.trans hu, by rw [HE3.out]; exact hO.vw, fun h => absurd HC3.out h, .inl ⟨HC3.out, rfl⟩⟩
  · have HC2 : Hid (C = S) := hid (by rw [← HC.out]; unfold neC; rw [HS.out]; exact if_neg h0)
    have HE2 : Hid (E = []) := hid (by rw [← HE.out]; unfold neL; rw [HC.out, HC2.out]; exact if_neg h0)
    have H0 := hid h0
    have hz := hz1 h0
    injection hz with q1 q2 q3
    clear h0 hz1
    go_wp2_with fail
    go_ret2
    exact ⟨_, _, rfl, hU1, by rw [HE2.out]; exact vw_nil _, fun _ => rfl, by rw [HC2.out]; exact .inr ⟨H0.out, t, y, rfl, hEr⟩⟩
def rsM (n : Nat) (l x v : List Int) : Nat → Int
  | 0 => 0
  | i + 1 => if rsM n l x v i < ((tmS n l x i n - zth v i).natAbs : Nat) then ((tmS n l x i n - zth v i).natAbs : Nat) else rsM n l x v i
theorem rsM_bp {n : Nat} {l x v : List Int} (h1 : ∀ i, i < n → (tmS n l x i n).natAbs < bp 2) (h2 : ∀ i, i < n → I64 (zth v i)) : ∀ i, i ≤ n → 0 ≤ rsM n l x v i ∧ (rsM n l x v i).natAbs < bp 3 := by
  have e3 : bp 3 = bp 2 * 18446744073709551616 := bp_succ 2
  have e2 : bp 2 = bp 1 * 18446744073709551616 := bp_succ 1
  have e1 : bp 1 = bp 0 * 18446744073709551616 := bp_succ 0
  rw [bp_zero] at e1
  intro i
  induction i with
  | zero => intro _; exact ⟨Int.le_refl _, by show 0 < _; omega⟩
  | succ i ih =>
    intro hi
    have h3 := ih (by omega)
    have h4 := h1 i (by omega)
    have h5 := h2 i (by omega)
    unfold I64 at h5
    unfold rsM
    split <;> omega
def rsC (N : Int) (l x v : List Int) : Int := if ftC N l [x, v] = 0 then (if rsM N.toNat l x v N.toNat < 9223372036854775808 then 0 else 21) else ftC N l [x, v]
def rsV (N : Int) (l x v : List Int) : Int := if rsC N l x v = 0 then rsM N.toNat l x v N.toNat else 0
def ResPost (w : World) (N : Int) (l x v : List Int) (r : Ending) (w' : World) : Prop := ∃ u, r = .returned (.tuple #[.int .i64 (rsV N l x v), u]) ∧ Up w w' ∧ ErrsP solveB w' u (rsC N l x v)
theorem lv_two {w : World} {v1 v2 : Value} {l1 l2 : List Int} (h1 : Vw w v1 l1) (h2 : Vw w v2 l2) : Lv (w.alloc (.cells #[v1, v2] 22)) (.slice (some ⟨w.heap.size, 0, none⟩) 2 2) [l1, l2] :=
  ⟨_, _, rfl, fun i hi => by
    rcases i with _ | _ | i
    · exact ⟨_, v1, rfl, (Blk.new _ _ rfl).cell 0 rfl, h1.up (Up.alloc _ _)⟩
    · exact ⟨_, v2, rfl, (Blk.new _ _ rfl).cell 1 rfl, h2.up (Up.alloc _ _)⟩
    · simp at hi; omega⟩
theorem ftC_two {N : Int} {l x v : List Int} (h : ftC N l [x, v] = 0) : ∃ n : Nat, N = (n : Int) ∧ rt n l = true ∧ x.length = n ∧ v.length = n := by
  unfold ftC at h
  by_cases h2 : rt N l = true ∧ ∀ i, i < [x, v].length → (([x, v].getD i []).length : Int) = N
  · obtain ⟨n0, n8, _, _⟩ := rt_spec h2.1
    obtain ⟨n, rfl⟩ : ∃ n : Nat, N = (n : Int) := ⟨N.toNat, by omega⟩
    have a1 := h2.2 0 (by simp)
    have a2 := h2.2 1 (by simp)
    simp at a1 a2
    exact ⟨n, rfl, h2.1, by omega, by omega⟩
  · rw [if_neg h2] at h; omega
set_option maxHeartbeats 16000000 in
theorem residual_any {mv xv vv : Value} {N : Int} {l x v : List Int} {w : World} (hm : Sm w mv N l) (hx : Vw w xv x) (hv : Vw w vv v) (hIx : In64 x) (hIv : In64 v) (hsx : x.length ≤ 1000) (hsv : v.length ≤ 1000) :
    Calls Tryz.prog 60 #[mv, xv, vv] w (ResPost w N l x v) := by
  have HF := hid (fun w' (hu : Up w w') => fitting_any (hm.up (hu.trans (Up.alloc w' (.cells #[xv, vv] 22)))) (lv_two (hx.up hu) (hv.up hu)) (fun i => by rcases i with _ | _ | i; exact hIx; exact hIv; exact fun j hj => absurd hj (Nat.not_lt_zero _)) (fun i => by rcases i with _ | _ | i; exact hsx; exact hsv; exact Nat.zero_le _) (by simp))
  have HT := hid (fun w' (hu : Up w w') => times_w (hm.up hu) (hx.up hu) hIx hsx)
  have HW21 := hid (fun w => swrong_any 21 (by decide) w)
  have HV := hid hv
  have HIX := hid hIx
  have HIV := hid hIv
  obtain ⟨px, cx, rfl, -, -⟩ := hx
  obtain ⟨pv, cv, rfl, -, -⟩ := hv
  obtain ⟨s, rfl, ⟨p, cap, rfl, -, -⟩, -, -, -⟩ := hm
  obtain ⟨W0, hW0⟩ : ∃ W0, w.alloc (.cells #[.int .i64 N, .slice p l.length cap] 24) = W0 := ⟨_, rfl⟩
  have hB : Blk W0 w.heap.size 24 #[.int .i64 N, .slice p l.length cap] := by rw [← hW0]; exact Blk.new _ _ rfl
  have hU : Up w W0 := by rw [← hW0]; exact Up.alloc _ _
  have HFW := hid (HF.out W0 hU)
  have hBa := hB.up (Up.alloc W0 (.cells #[.slice px x.length cx, .slice pv v.length cv] 22))
  have hUa := hU.trans (Up.alloc W0 (.cells #[.slice px x.length cx, .slice pv v.length cv] 22))
  unfold ResPost
  unfold WidesPost at HT
  obtain ⟨F, hF⟩ : ∃ F, ftC N l [x, v] = F := ⟨_, rfl⟩
  obtain ⟨C, hC⟩ : ∃ C, rsC N l x v = C := ⟨_, rfl⟩
  obtain ⟨V, hVv⟩ : ∃ V, rsV N l x v = V := ⟨_, rfl⟩
  have HFF := hid hF
  have HC := hid hC
  have HVv := hid hVv
  rw [hF] at HFW
  rw [hC, hVv]
  clear hF hC hVv HF hIx hIv hsx hsv
  go_enter Tryz.func60, Tryz.ntmps60
  go_upto_region 2 with (first
    | ((with_reducible apply ldM_P); exact rfl; exact rfl; exact hB; exact rfl)
    | (go_at_call 73; (with_reducible refine HFW.out.mono ?_); rintro r w1 ⟨u1, rfl, hu1, h1⟩; have hB1 := hBa.up hu1; have hU1 := hUa.trans hu1))
  rcases h1 with ⟨h0, rfl⟩ | ⟨h0, t, y, rfl, hE⟩
  · obtain ⟨n, rfl, hR, hxl, hvl⟩ := ftC_two (HFF.out.trans h0)
    have hn8 : n ≤ 8 := by have := (rt_spec hR).2.1; omega
    have etc : tmC (n : Int) l x = 0 := by unfold tmC; rw [hR, decide_eq_true (by omega)]; rfl
    have etr : tmR (n : Int) l x = tmL n l x := by unfold tmR; rw [if_pos etc]; rfl
    rw [etc, etr] at HT
    have hTl : (tmL n l x).length = n := mk_len _ _
    have HTl := hid hTl
    have HTa := hid (fun i (hi : i < n) => show zth (tmL n l x) i = tmS n l x i n from mk_at hi)
    have HTb := hid (fun i (hi : i < n) => tmS_bp hR HIX.out hxl hi (Nat.le_refl n) hn8)
    have HVi := hid (fun i (hi : i < n) => HIV.out i (by omega))
    have HRb := hid (rsM_bp HTb.out HVi.out)
    have HC2 : Hid (C = if rsM n l x v n < 9223372036854775808 then 0 else 21) := hid (by rw [← HC.out]; unfold rsC; rw [if_pos (HFF.out.trans h0)]; rfl)
    have HV2 : Hid (V = if C = 0 then rsM n l x v n else 0) := hid (by rw [← HVv.out, ← HC.out]; rfl)
    have HOV := hid (fun i (hi : i < n) w => of_any (zth v i) (HVi.out i hi).1 (HVi.out i hi).2 w)
    have HVL := hid hvl
    rw [hxl] at HT
    rw [hxl, hvl]
    rw [hvl] at HV
    clear etc etr hTl hR hxl hvl h0 hW0 hB hBa hUa hu1 hU HFW
    unfold wideV at *
    go_wp2_with (first
      | ((with_reducible apply ldM_P); exact rfl; exact rfl; exact hB1; exact rfl)
      | (go_at_call 92; (with_reducible refine (HT.out _ hU1).mono ?_); rintro r w2 ⟨z2, u2, rfl, hu2, hW2, he2⟩; obtain rfl := he2.elim (fun h => h.2) (fun h => absurd rfl h.1); obtain ⟨pz, cz, rfl⟩ := hW2.slice; have hU2 := hU1.trans hu2
         rw [HTl.out]
         obtain ⟨wI, hwI⟩ : ∃ y, w2.alloc (.cells (cells 16 (fun _ => 0)) 33) = y := ⟨_, rfl⟩
         have hG0 : Row wI w2.heap.size 33 16 (limb (enc 0)) := by rw [← hwI]; show Blk _ _ _ (cells 16 (limb (enc 0))); rw [← zero_limb]; exact Blk.new _ _ rfl
         have hUI : Up w2 wI := by rw [← hwI]; exact Up.alloc _ _
         rw [← zeros16] at hwI))
    obtain ⟨bG, hbG⟩ : ∃ y, w2.heap.size = y := ⟨_, rfl⟩
    rw [hbG] at hG0 ⊢
    rw [HTl.out] at hW2
    have HW2 := hid hW2
    clear hW2 hwI hu2 he2 hB1
    go_loopg [37] n (fun g ti wr => ∃ i : Nat, i ≤ n ∧ n - i ≤ g ∧ ti = .int .i64 (i : Nat) ∧ Row wr bG 33 16 (limb (enc (rsM n l x v i))) ∧ Up w2 wr)
    case atStart => exact ⟨0, Nat.zero_le _, by omega, rfl, hG0, hUI⟩
    case round =>
      clear hG0 hUI
      obtain ⟨i, hi, hig, rfl, hG, hu⟩ := hrel
      have hGI : InR (rsM n l x v i) := inR_bp (k := 3) (by omega) (HRb.out i hi).2
      by_cases hlt : i < n
      · obtain ⟨gZ, cZ, CZ, hv, -, hBZ, htZ⟩ := (show Wv w2 (.slice pz (tmL n l x).length cz) (tmL n l x) from by rw [HTl.out]; exact HW2.out).open (by rw [HTl.out]; omega)
        rw [HTl.out] at hv
        injection hv with x1 x2 x3
        subst x1 x3
        have HRng : Hid (∀ w', Blk w' gZ 33 CZ → w'.rangeAt gZ (i * 16) (wc (tmS n l x i n))) := hid (fun w' hB => HTa.out i hlt ▸ wv_range hB htZ (by rw [HTl.out]; exact hlt))
        have hBZr := hBZ.up hu
        have hVr := Vw.up (hU2.trans hu) HV.out
        obtain ⟨q', cq', xq, _, hcq⟩ := hVr
        injection xq with y1 y2 y3
        subst y1
        obtain ⟨ad, rfl, hck⟩ := hcq i (by rw [HVL.out]; exact hlt)
        have hp2 := HTb.out i hlt
        have hv64 := HVi.out i hlt
        have HOf := hid (HOV.out i hlt)
        have hRs : rsM n l x v (i + 1) = if rsM n l x v i < (((tmS n l x i n - zth v i).natAbs : Nat) : Int) then (((tmS n l x i n - zth v i).natAbs : Nat) : Int) else rsM n l x v i := rfl
        have e3 : bp 3 = bp 2 * 18446744073709551616 := bp_succ 2
        have e2' : bp 2 = bp 1 * 18446744073709551616 := bp_succ 1
        have e1' : bp 1 = bp 0 * 18446744073709551616 := bp_succ 0
        rw [bp_zero] at e1'
        have hd3 : (tmS n l x i n - zth v i).natAbs < bp 3 := by unfold I64 at hv64; omega
        have HLs := hid (fun w => sless_any (w := w) (inR_bp (k := 2) (by omega) hp2) (inR_bp (k := 2) (by omega) (show (zth v i).natAbs < bp 2 by unfold I64 at hv64; omega)) (inR_bp (k := 3) (by omega) hd3))
        have HAm := hid (fun w => samount_any (w := w) (Nat.lt_of_lt_of_le hd3 (bp_mono (show 3 ≤ 14 by omega))))
        have hAI : InR (((tmS n l x i n - zth v i).natAbs : Nat) : Int) := inR_bp (k := 3) (by omega) (by omega)
        have HCm := hid (fun w => cmp_z hAI hGI w)
        have HRs := hid hRs
        have e1 : IntKind.i64.wrap ((i : Int) + 1) = (i : Int) + 1 := IntWalk.i64_in _ (by omega)
        clear htZ x2 hBZ hcq y2 y3 hRs e3 e2' e1' hd3 hp2 hv64 hAI hGI
        obtain ⟨vi, hvi⟩ : ∃ y, zth v i = y := ⟨_, rfl⟩
        rw [hvi] at hck HOf HLs HAm HCm HRs
        clear hvi
        generalize tmS n l x i n = S at *
        generalize S - vi = dd at *
        obtain ⟨A, hA⟩ : ∃ A, ((dd.natAbs : Nat) : Int) = A := ⟨_, rfl⟩
        rw [hA] at HAm HCm HRs
        clear hA
        (try unfold wideV at HOf); (try unfold wideV at HLs); (try unfold wideV at HAm); (try unfold wideV at HCm)
        go_wp2_with (first
          | ((with_reducible apply ldW_P); exact rfl; exact rfl; exact HRng.out _ hBZr)
          | ((with_reducible apply st_rowP infoW); exact rfl; exact rfl; exact row_newz _ rfl
             refine wpL_folded (fun wd => Up wr wd ∧ Row wd wr.heap.size 33 16 (limb (enc S))) ⟨gUp, gRow⟩ ?_
             rintro wM ⟨hXM, hP⟩
             have hckM := hXM.cellEq hck))
        refine opU (S := (fun wq => Row wq wr.heap.size 33 16 (limb (enc S)) ∧ wq.cell? (ad.add i) = some (.int .i64 vi) ∧ Up wM wq ∧ Below w.heap.size w wq)) (req := (fun j => j != 9)) (fun _ _ h hu => ⟨(h.1).up hu, hu.cell (h.2.1), (h.2.2.1).trans hu, below_up (h.2.2.2) hu⟩) ⟨gRow, (by first | assumption | (apply Blk.cell; exact gBlk; exact rfl)), (by first | exact Up.refl _ | assumption), gUp⟩ (fun wS hSS hSu => ?_)
        have ⟨hS1, hS2, hS3, hSB⟩ := hSS
        refine tkT 0 (some 42) rfl hSu hSS ?_ (hy := fun w' hSw => run_ld undW infoW _ rfl _ rfl hSw.1)
        refine tkP 1 (some 43) hSu ?_
        refine tkP 2 (some 44) hSu ?_
        refine tkP 3 (some 45) hSu ?_
        refine tkT 4 (some 46) rfl hSu hSS ?_ (hy := fun w' hSw => by ((try dsimp only at hSw); (try obtain ⟨_, _, _, _⟩ := hSw); go_simp; (try exact rfl)))
        refine tkC 5 (some 47) rfl hSu hSS ?_ (hy := fun w' hSw => (HOf.out _))
        refine tkC 6 (some 48) rfl hSu hSS ?_ (hy := fun w' hSw => (HLs.out _))
        refine tkC 7 (some 49) rfl hSu hSS ?_ (hy := fun w' hSw => (HAm.out _))
        refine wpAnyU_allocW (i := 8) (d := (some 14)) rfl rfl (by kernel_rfl) (by rfl) rfl hSu.out fun w3 hw3 => ?_
        try simp only [Act.put, pu1, pu2, pu3]
        refine wpAnyU_one (i := 9) rfl (by kernel_rfl) (by rfl) fun w4 hw4 => ?_
        refine wp_st_rowN infoW rfl _ _ rfl _ rfl rfl ((Row.up (row_newc _ 16 _ rfl) hw4)) ?_
        refine ⟨fun h => by simp at h, ?_⟩
        try simp only [Act.put, pu1, pu2, pu3]
        refine wpAnyU_done (by kernel_rfl) (fun wF huE => ?_) _
        have hP1 := ((Row.up (row_newc 33 16 (fun _ => 0) (rfl : w3.heap.size = w3.heap.size)) hw4).setRow (limb (enc A))).up huE
        have hx1 := hXM.trans (up_var (hS3.trans hw3) hw4 huE)
        clear hS1 hS2 hS3 hSB hSS hw3 hw4 huE hP
        have hGr := hG.up hx1
        obtain ⟨wB, hwB⟩ : ∃ x, wF = x := ⟨_, rfl⟩
        rw [hwB] at hP1 hx1 hGr ⊢
        clear hwB
        obtain ⟨b1, hb1⟩ : ∃ x, w3.heap.size = x := ⟨_, rfl⟩
        rw [hb1] at hP1 ⊢
        clear hb1
        obtain ⟨G, hGg⟩ : ∃ G, rsM n l x v i = G := ⟨_, rfl⟩
        rw [hGg] at hGr HCm HRs
        clear hGg hG
        by_cases hc : G < A
        · have dc : decide (cmpZ A G > 0) = true := by unfold cmpZ; rw [if_neg (by omega), if_pos hc]; rfl
          rw [if_pos hc] at HRs
          clear hc
          go_wp2_with (first
            | ((with_reducible apply ld_rowP undW infoW); exact rfl; exact rfl; exact gRow)
            | (go_at_call 95; (with_reducible refine (HCm.out _).mono ?_); rintro r w5 ⟨rfl, hu5⟩; have hP5 := hP1.up hu5; have hG5 := hGr.up hu5)
            | ((with_reducible apply st_rowP infoW); exact rfl; exact rfl; exact hG5
               refine wpL_folded (fun wd => Up w2 wd ∧ Row wd bG 33 16 (limb (enc A))) ⟨below_setRow (hu.trans (hx1.trans hu5)) (by omega) _, hG5.setRow _⟩ ?_
               rintro w6 ⟨hX6, hG6⟩))
          go_roundg (n - (i + 1))
          case measure => omega
          case rel => exact ⟨i + 1, hlt, Nat.le_refl _, rfl, by rw [HRs.out]; exact hG6, hX6⟩
        · have dc : decide (cmpZ A G > 0) = false := by unfold cmpZ; by_cases h1 : A < G; rw [if_pos h1]; rfl; rw [if_neg h1, if_neg hc]; rfl
          rw [if_neg hc] at HRs
          clear hc
          go_wp2_with (first
            | ((with_reducible apply ld_rowP undW infoW); exact rfl; exact rfl; exact gRow)
            | (go_at_call 95; (with_reducible refine (HCm.out _).mono ?_); rintro r w5 ⟨rfl, hu5⟩; have hP5 := hP1.up hu5; have hG5 := hGr.up hu5))
          go_roundg (n - (i + 1))
          case measure => omega
          case rel => exact ⟨i + 1, hlt, Nat.le_refl _, rfl, by rw [HRs.out]; exact hG5, hu.trans (hx1.trans hu5)⟩
      · obtain rfl : i = n := by omega
        have HI64 := hid (fun w => int64_z hGI w)
        have h0R := (HRb.out i hi).1
        by_cases hc : rsM i l x v i < 9223372036854775808
        · rw [i64V_yes (by omega)] at HI64
          have HC3 : Hid (C = 0) := hid (by rw [HC2.out]; exact if_pos hc)
          have HV3 : Hid (V = rsM i l x v i) := hid (by rw [HV2.out, HC3.out]; rfl)
          generalize rsM i l x v i = G at *
          clear hc h0R
          (try unfold wideV at HI64)
          go_wp2_with (first
            | ((with_reducible apply ld_rowP undW infoW); exact rfl; exact rfl; exact gRow)
            | (go_at_call 96; (with_reducible refine (HI64.out _).mono ?_); rintro r w5 ⟨rfl, hu5⟩))
          go_ret2
          exact ⟨.nilIface, by rw [HV3.out]; rfl, hU2.trans (hu.trans hu5), .inl ⟨HC3.out, rfl⟩⟩
        · rw [i64V_no (by omega)] at HI64
          have HC3 : Hid (C = 21) := hid (by rw [HC2.out]; exact if_neg hc)
          have HV3 : Hid (V = 0) := hid (by rw [HV2.out, HC3.out]; rfl)
          generalize rsM i l x v i = G at *
          clear hc h0R
          (try unfold wideV at HI64)
          go_wp2_with (first
            | ((with_reducible apply ld_rowP undW infoW); exact rfl; exact rfl; exact gRow)
            | (go_at_call 96; (with_reducible refine (HI64.out _).mono ?_); rintro r w5 ⟨rfl, hu5⟩)
            | (go_at_call 66; (with_reducible refine (HW21.out _).mono ?_); rintro r w6 ⟨u6, rfl, hu6, h6⟩))
          go_ret2
          exact ⟨u6, by rw [HV3.out]; rfl, hU2.trans (hu.trans (hu5.trans hu6)), by rw [HC3.out]; exact h6⟩
  · have HC2 : Hid (C = F) := hid (by rw [← HC.out]; unfold rsC; rw [HFF.out]; exact if_neg h0)
    have HV2 : Hid (V = 0) := hid (by rw [← HVv.out]; unfold rsV; rw [HC.out, HC2.out]; exact if_neg h0)
    have H0 := hid h0
    clear h0
    go_wp2_with fail
    go_ret2
    exact ⟨.iface t y, by rw [HV2.out]; rfl, hU1, by rw [HC2.out]; exact .inr ⟨H0.out, t, y, rfl, hE⟩⟩
theorem xor_all {x : Nat} (h : x < 2 ^ 64) : (2 ^ 64 - 1) ^^^ x = 2 ^ 64 - (x + 1) := by
  apply Nat.eq_of_testBit_eq
  intro i
  rw [Nat.testBit_xor, Nat.testBit_two_pow_sub_one, Nat.testBit_two_pow_sub_succ h]
  by_cases hi : i < 64
  · simp [hi]
  · have : x.testBit i = false := Nat.testBit_lt_two_pow (Nat.lt_of_lt_of_le h (Nat.pow_le_pow_right (by decide) (by omega)))
    simp [hi, this]
theorem bits_not {x : Nat} (h : x < 18446744073709551616) : bits BinOp.xor IntKind.u64 IntKind.u64.max (x : Int) = ((18446744073709551615 - x : Nat) : Int) := by
  have h1 := bits_xor_u64_nat 18446744073709551615 x (by decide) h
  have h2 := xor_all (x := x) h
  rw [show (2 ^ 64 - 1 : Nat) = 18446744073709551615 from rfl, show (2 ^ 64 : Nat) = 18446744073709551616 from rfl] at h2
  rw [h2] at h1
  rw [show (IntKind.u64.max : Int) = ((18446744073709551615 : Nat) : Int) from rfl, h1]
  omega
theorem comp_step {S : Nat → Nat} {X A B c r c' i : Nat} (h : sumL S i + c * bp i + A = B) (hB : B = bp i) (hr : r + c' * 18446744073709551616 + X = 18446744073709551615 + c) : sumL (upd S i r) (i + 1) + c' * bp (i + 1) + (A + X * bp i) = bp (i + 1) := by
  subst hB
  rw [sumL_upd_succ, bp_succ]
  have h2 : (r + c' * 18446744073709551616 + X) * bp i = (18446744073709551615 + c) * bp i := by rw [hr]
  have h3 : r * bp i + c' * (bp i * 18446744073709551616) + X * bp i = 18446744073709551615 * bp i + c * bp i := by grind
  omega
theorem blen_nl {x : Nat} (h : 0 < nl x) : blen x = 64 * (nl x - 1) + Lib.bitLen (limb x (nl x - 1)) := by
  have h1 := blen_limbs (f := limb x) (n := x) (fun i _ => limb_lt x i) h
  rw [sumL_limb, Nat.mod_eq_of_lt (lt_bp_self x)] at h1
  exact h1
theorem size_am {x : Nat} {v : Value} {w : World} (h : Am w v x) (hx : nl x < 50000) :
    Calls Tryz.prog 85 #[v] w fun e w' => e = .returned (.int .i64 (blen x : Nat)) ∧ Up w w' := by
  obtain ⟨a, c, rfl, hc, hcell⟩ := h.open
  by_cases h0 : nl x = 0
  · have e : blen x = 0 := by
      have : x = 0 := by
        rcases Nat.eq_zero_or_pos x with h1 | h1
        · exact h1
        · have := nl_pos h1; omega
      rw [this]; rfl
    rw [e, h0]
    clear hcell e
    go_enter Tryz.func85, Tryz.ntmps85
    go_wp2
    go_ret
    exact ⟨rfl, gUp⟩
  · obtain ⟨j, hj⟩ : ∃ j, nl x = j + 1 := ⟨nl x - 1, by omega⟩
    have hb := blen_nl (x := x) (by omega)
    have hl := limb_lt x j
    obtain ⟨b, rfl, hb1, hcb⟩ := hcell j (by omega)
    have hcW := hcb w (Up.refl _)
    rw [hj, Nat.add_sub_cancel] at hb
    have hbl := fun w' => Tryz.bits_Len64 (limb x j : Nat) w' (by omega) (by omega)
    simp only [Int.toNat_natCast] at hbl
    have HB := hid hbl
    have hle : Lib.bitLen (limb x j) ≤ 64 := by
      rcases Nat.eq_zero_or_pos (limb x j) with h1 | h1
      · rw [h1]; decide
      · exact (bitLen_spec hl (by omega)).2.2.2
    rw [hb, hj]
    clear hcell hcb hbl hb
    generalize limb x j = t at *
    generalize Lib.bitLen t = l at *
    go_enter Tryz.func85, Tryz.ntmps85
    go_wp2_with (go_at_call 118; refine (HB.out _).mono ?_; rintro e w' ⟨rfl, rfl⟩)
    go_ret
    exact ⟨ret_int (by omega), gUp⟩
theorem hb_sum : sumL (upd (fun _ => 0) 15 9223372036854775808) 17 = hb := by
  have h1 := sumL_upd (fun _ => 0) (k := 15) (n := 17) 9223372036854775808 (by decide)
  rw [sumL_zeros] at h1
  unfold hb
  omega
set_option maxHeartbeats 1000000 in
theorem left_hb (b : Nat) (w : World) (hcell : ∀ w', Up w w' → w'.cell? ⟨b, 0, none⟩ = some (.int .u64 1)) (_ : b < w.heap.size) :
    Calls Tryz.prog 87 #[.slice (some ⟨b, 0, none⟩) 1 1, .int .i64 1023] w fun e w' => Up w w' ∧ ∃ v, e = .returned v ∧ Am w' v hb := by
  go_enter Tryz.func87, Tryz.ntmps87
  go_wp2_with (first | ((with_reducible apply mkP (n := 17)); exact rfl; (first | rfl | omega); omega))
  go_loopw [7] (fun ti wr => ∃ (i : Nat) (S : Nat → Nat), i ≤ 1 ∧ ti = .int .i64 (i : Nat) ∧ (i = 0 → S = fun _ => 0) ∧ (i = 1 → S = upd (fun _ => 0) 15 9223372036854775808) ∧ Row wr w.heap.size 31 17 S ∧ Below w.heap.size w wr)
    (fun ti _ => 1 - (intOf ti).toNat)
  case atStart => exact ⟨0, fun _ => 0, by omega, rfl, fun _ => rfl, fun h => by omega, gRow, gUp⟩
  case round =>
    obtain ⟨i, S, hi, rfl, hS0, hS1, hS, hB⟩ := hrel
    by_cases hlt : i < 1
    · obtain rfl : i = 0 := by omega
      obtain rfl := hS0 rfl
      have hcx := hcell _ hB
      clear hS0 hS1
      have hc15 := hS.cell 15 (by decide)
      go_wp2
      refine opU (S := (fun wq => Row wq w.heap.size 31 17 (fun _ => 0) ∧ wq.cell? ⟨b, 0, none⟩ = some (.int .u64 1) ∧ wq.cell? ⟨w.heap.size, 15, none⟩ = some (.int .u64 0) ∧ Below w.heap.size w wq)) (req := (fun j => j != 15)) (fun _ _ h hu => ⟨(h.1).up hu, hu.cell (h.2.1), hu.cell (h.2.2.1), below_up (h.2.2.2) hu⟩) ⟨gRow, (by first | assumption | (apply Blk.cell; exact gBlk; exact rfl)), (by first | assumption | (apply Blk.cell; exact gBlk; exact rfl)), gUp⟩ (fun wS hSS hSu => ?_)
      have ⟨hS1, hS2, hS3, hSB⟩ := hSS
      clear hcx hc15 hB
      have e15 : IntKind.i64.wrap 15 = 15 := by rw [IntKind.wrap_i64]; rfl
      have e16 : IntKind.i64.wrap 16 = 16 := by rw [IntKind.wrap_i64]; rfl
      have e63 : IntKind.u64.wrap 9223372036854775808 = 9223372036854775808 := by rw [IntKind.wrap_u64]; rfl
      have eor : bits BinOp.or IntKind.u64 0 9223372036854775808 = 9223372036854775808 := by
        have := bits_or_u64_nat 0 9223372036854775808 (by decide) (by decide)
        rw [Nat.zero_or] at this
        exact this
      have eoz : bits BinOp.or IntKind.u64 0 0 = 0 := by
        have := bits_or_u64_nat 0 0 (by decide) (by decide)
        rw [Nat.zero_or] at this
        exact this
      refine tkP 0 (some 26) hSu ?_
      refine tkP 1 (some 27) hSu ?_
      refine tkP 2 (some 28) hSu ?_
      refine tkP 3 (some 29) hSu ?_
      refine tkP 4 (some 30) hSu ?_
      refine tkP 5 (some 31) hSu ?_
      refine tkT 6 (some 32) rfl hSu hSS ?_ (hy := fun w' hSw => by ((try dsimp only at hSw); (try obtain ⟨_, _, _, _⟩ := hSw); go_simp; (try exact rfl)))
      refine tkP 7 (some 33) hSu ?_
      refine tkP 8 (some 34) hSu ?_
      refine tkP 9 (some 35) hSu ?_
      refine tkT 10 (some 36) rfl hSu hSS ?_ (hy := fun w' hSw => by ((try dsimp only at hSw); (try obtain ⟨_, _, _, _⟩ := hSw); go_simp; (try exact rfl)))
      refine tkP 11 (some 37) hSu ?_
      refine tkP 12 (some 38) hSu ?_
      refine tkP 13 (some 39) hSu ?_
      refine tkP 14 (some 40) hSu ?_
      refine wpAnyU_one (i := 15) rfl (by kernel_rfl) (by rfl) fun w1 hw1 => ?_
      have hcW := (hS1.up hw1).cell 15 (by omega)
      have hfW := (hS1.up hw1).frozen 15
      go_simp
      clear hcW hfW
      refine wpAnyU_done (by kernel_rfl) (fun wF huE => ?_) _
      have gS := ((hS1.up hw1).set 15 9223372036854775808).up huE
      have gB := below_up ((below_up hSB hw1).setCell (p := ⟨w.heap.size, 15, none⟩) (Nat.le_refl _) (.int .u64 (9223372036854775808 : Nat))) huE
      clear hS1 hS2 hS3 hSB hSS hw1 huE
      have hcx := hcell _ gB
      have hc16 := gS.cell 16 (by decide)
      rw [show upd (fun _ => 0) 15 9223372036854775808 16 = 0 from rfl] at hc16
      go_wp2
      refine opU (S := (fun wq => Row wq w.heap.size 31 17 (upd (fun _ => 0) 15 9223372036854775808) ∧ wq.cell? ⟨b, 0, none⟩ = some (.int .u64 1) ∧ wq.cell? ⟨w.heap.size, 16, none⟩ = some (.int .u64 0) ∧ Below w.heap.size w wq)) (req := (fun j => j != 17)) (fun _ _ h hu => ⟨(h.1).up hu, hu.cell (h.2.1), hu.cell (h.2.2.1), below_up (h.2.2.2) hu⟩) ⟨gRow, (by first | assumption | (apply Blk.cell; exact gBlk; exact rfl)), (by first | assumption | (apply Blk.cell; exact gBlk; exact rfl)), gUp⟩ (fun wS hSS hSu => ?_)
      have ⟨hS1, hS2, hS3, hSB⟩ := hSS
      clear hcx hc16 gB gS
      refine tkP 0 (some 43) hSu ?_
      refine tkP 1 (some 44) hSu ?_
      refine tkP 2 (some 45) hSu ?_
      refine tkP 3 (some 46) hSu ?_
      refine tkP 4 (some 47) hSu ?_
      refine tkP 5 (some 48) hSu ?_
      refine tkP 6 (some 49) hSu ?_
      refine tkT 7 (some 50) rfl hSu hSS ?_ (hy := fun w' hSw => by ((try dsimp only at hSw); (try obtain ⟨_, _, _, _⟩ := hSw); go_simp; (try exact rfl)))
      refine tkP 8 (some 51) hSu ?_
      refine tkP 9 (some 52) hSu ?_
      refine tkP 10 (some 53) hSu ?_
      refine tkT 11 (some 54) rfl hSu hSS ?_ (hy := fun w' hSw => by ((try dsimp only at hSw); (try obtain ⟨_, _, _, _⟩ := hSw); go_simp; (try exact rfl)))
      refine tkP 12 (some 55) hSu ?_
      refine tkP 13 (some 56) hSu ?_
      refine tkP 14 (some 57) hSu ?_
      refine tkP 15 (some 58) hSu ?_
      refine tkP 16 (some 59) hSu ?_
      refine wpAnyU_one (i := 17) rfl (by kernel_rfl) (by rfl) fun w1 hw1 => ?_
      have hcW := (hS1.up hw1).cell 16 (by omega)
      have hfW := (hS1.up hw1).frozen 16
      go_simp
      clear hcW hfW
      refine wpAnyU_done (by kernel_rfl) (fun wF huE => ?_) _
      have gS := ((hS1.up hw1).set 16 0).up huE
      have gB := below_up ((below_up hSB hw1).setCell (p := ⟨w.heap.size, 16, none⟩) (Nat.le_refl _) (.int .u64 (0 : Nat))) huE
      clear hS1 hS2 hS3 hSB hSS hw1 huE
      go_wp2
      go_roundw
      case rel => exact ⟨1, _, by omega, rfl, fun h => by omega, fun _ => rfl, gS.congr fun i _ => by unfold upd; split <;> (first | rfl | (subst_vars; rfl) | simp_all), gB⟩
      case measure => simp [intOf]
    · obtain rfl : i = 1 := by omega
      obtain rfl := hS1 rfl
      clear hS0 hS1
      have hSb : ∀ j, j < 17 → upd (fun _ => 0) 15 9223372036854775808 j < 18446744073709551616 := upd_lt (fun _ _ => by simp) (by decide)
      have ht := trim_row w.heap.size 17 17 17 (upd (fun _ => 0) 15 9223372036854775808) wr hS (Nat.le_refl _) (Nat.le_refl _) (by omega)
      have hres := am_row (c := 17) hS (Nat.le_refl _) (Nat.le_refl _) hSb
      rw [hb_sum] at hres
      have HT := hid ht
      have HR := hid hres
      clear ht hres hSb hS
      generalize lenL (upd (fun _ => 0) 15 9223372036854775808) 17 = n at *
      go_wp2_with (go_at_call 74; (with_reducible refine HT.out.mono ?_); rintro e w' ⟨rfl, hu⟩)
      go_ret
      exact ⟨below_up hB hu, _, rfl, HR.out.up hu⟩
theorem blen_small {x : Nat} (h : x < hb) : blen x < 1024 := by
  obtain ⟨c, hc⟩ : ∃ c, c = 1023 := ⟨_, rfl⟩
  rw [hb_pow c hc] at h
  rcases Nat.lt_or_ge (blen x) 1024 with h1 | h1
  · exact h1
  · have h0 : x ≠ 0 := fun e => by subst e; simp [blen] at h1
    have h2 := blen_le h0
    have h3 : 2 ^ c ≤ 2 ^ (blen x - 1) := Nat.pow_le_pow_right (by decide) (by omega)
    omega
theorem blen_mid {x : Nat} (h1 : hb ≤ x) (h2 : x < bp 16) : blen x = 1024 := by
  obtain ⟨c, hc⟩ : ∃ c, c = 1023 := ⟨_, rfl⟩
  have h3 := bp16
  rw [hb_pow c hc] at h1 h3
  have := blen_of (x := x) (k := c) h1 (by rw [Nat.pow_succ]; omega)
  omega
theorem blen_over {x : Nat} (h : bp 16 ≤ x) : 1024 < blen x := by
  obtain ⟨c, hc⟩ : ∃ c, c = 1024 := ⟨_, rfl⟩
  have h3 := bp_two 16
  rw [show 64 * 16 = c by omega] at h3
  rw [h3] at h
  rcases Nat.lt_or_ge 1024 (blen x) with h1 | h1
  · exact h1
  · have h2 := blen_lt x
    have h4 : 2 ^ blen x ≤ 2 ^ c := Nat.pow_le_pow_right (by decide) (by omega)
    omega
theorem wp_copy {K : Act → World → Prop} {Q : Exit → Act → World → Prop} {a : Act} {w : World} {o : Oper} {d s : Operand} {x g c : Nat} {sp : Option Addr} (hgd : o.guard = none) (ho : o.op = .call { callee := .builtin .copy, args := #[d, s], argTypes := #[44, 44] })
    (hd : a.eval d = .slice (some ⟨g, 0, none⟩) 16 16) (hs : a.eval s = .slice sp (nl x) c) (hA : Am w (.slice sp (nl x) c) x) (hx : nl x ≤ 16) (hg : Row w g 33 16 (fun _ => 0))
    (h : ∀ w', Row w' g 33 16 (limb x) → Below g w w' → K (a.put o.dst (goInt (nl x))) w') : o.wp Tryz.prog a w K Q := by
  obtain ⟨a', c', he, hc, hC⟩ := hA
  obtain ⟨rfl, rfl⟩ : sp = a' ∧ c = c' := by simpa using he
  have hlen : ((cells 16 (limb x)).toList.take (nl x)).length = nl x := by simp [cells_size]; omega
  have hiU : (Tryz.prog.info? 31).map (·.size) = some 1 := by
    have := infoU
    cases hq : Tryz.prog.info? 31 with
    | none => rw [hq] at this; simp at this
    | some i =>
      rw [hq] at this
      simp only [Option.map_some, Option.some.injEq, Prod.mk.injEq] at this
      simp [this.2.1]
  have hcs : ∀ j v, ((cells 16 (limb x)).toList.take (nl x))[j]? = some v → j < nl x ∧ v = .int .u64 (limb x j : Nat) := fun j v hj => by
    have h1 : j < nl x := by
      have := (List.getElem?_eq_some_iff.1 hj).1
      rw [hlen] at this
      exact this
    rw [List.getElem?_take_of_lt h1, Array.getElem?_toList, cells_get 16 _ j (by omega)] at hj
    cases hj
    exact ⟨h1, rfl⟩
  have hst := step_copy_splice (P := Tryz.prog) (ops := #[]) (o := o) (a := a) (w := w) (K := K) (Q := Q) (E := True) hgd d s 44 44 ho 31 undS hiU (some ⟨g, 0, none⟩) sp 16 16 (nl x) c hd hs g 0 (cells 16 (fun _ => 0)).toList 33 hg ((cells 16 (limb x)).toList.take (nl x)) (by rw [hlen]; exact (Nat.min_eq_left hx).symm)
    (fun h0 => by
      rw [hlen] at h0
      obtain ⟨b, C, rfl, hB, hC'⟩ := hC h0
      refine ⟨rfl, _, rfl, fun j v hj => ?_⟩
      obtain ⟨h1, rfl⟩ := hcs j v hj
      have hadd : (⟨b, 0, none⟩ : Addr).add j = ⟨b, j, none⟩ := by unfold Addr.add; split <;> simp_all
      rw [hadd]
      exact hB.cell j (hC' j h1))
    (by rw [hlen]; simp [cells_size]; omega)
    (fun v hv => by
      obtain ⟨j, hj⟩ := List.mem_iff_getElem?.1 hv
      obtain ⟨_, rfl⟩ := hcs j v hj
      rfl) g w (Below.refl _ _) (Nat.le_refl _)
    (fun w' h1 h2 => by
      rw [hlen]
      refine h w' ?_ h2
      have h3 := h1.out
      unfold Row Blk
      rw [h3]
      congr 2
      apply Array.ext
      · rw [List.size_toArray, length_splice _ _ _ (by rw [hlen]; simp [cells_size]; omega)]; simp [cells_size]
      · intro i hi1 hi2
        rw [cells_size] at hi2
        have e1 : (splice (cells 16 (fun _ => 0)).toList 0 ((cells 16 (limb x)).toList.take (nl x)))[i]? = some (.int .u64 (limb x i : Nat)) := by
          unfold splice
          rw [hlen, List.take_zero, List.nil_append, Nat.zero_add]
          by_cases hin : i < nl x
          · rw [List.getElem?_append_left (by rw [hlen]; exact hin), List.getElem?_take_of_lt hin, Array.getElem?_toList, cells_get 16 _ i hi2]
          · rw [List.getElem?_append_right (by rw [hlen]; omega), hlen, List.getElem?_drop, Array.getElem?_toList, show nl x + (i - nl x) = i by omega, cells_get 16 _ i hi2, limb_nl (by omega)]
        have e2 := cells_get 16 (limb x) i hi2
        have e3 : (splice (cells 16 (fun _ => 0)).toList 0 ((cells 16 (limb x)).toList.take (nl x))).toArray[i]? = (cells 16 (limb x))[i]? := by rw [e2, List.getElem?_toArray, e1]
        rw [Array.getElem?_eq_getElem hi1, Array.getElem?_eq_getElem (by rw [cells_size]; exact hi2)] at e3
        exact Option.some.inj e3)
  rw [if_pos (by simp [Region.wanted, hgd])] at hst
  exact hst
theorem Row.belowU {w w' : World} {B b n : Nat} {t : TypeId} {f : Nat → Nat} (hb : Below B w w') (hB : b < B) (h : Row w b t n f) : Row w' b t n f := by
  unfold Row Blk at *; rw [hb.block b hB]; exact h
theorem Blk.belowU {w w' : World} {B b : Nat} {t : TypeId} {C : Array Value} (hb : Below B w w') (hB : b < B) (h : Blk w b t C) : Blk w' b t C := by
  unfold Blk at *; rw [hb.block b hB]; exact h
set_option maxRecDepth 100000 in
set_option maxHeartbeats 4000000 in
theorem to_small {z : Int} {v : Value} {w : World} (h : Big w v z) (hlt : z.natAbs < hb) :
    Calls Tryz.prog 50 #[v] w fun e w' => e = .returned (opt z) ∧ Up w w' := by
  have hbp := hb_pos
  have hb16 := bp16
  have hz : InR z := InR.mk' (by omega)
  rw [opt_yes hz]
  obtain ⟨a, c, rfl, hA⟩ := h
  have hn16 : nl z.natAbs ≤ 16 := nl_le (by omega)
  have hsz := fun w' (h : Up w w') => size_am (hA.up h) (by omega)
  have hbl := blen_small hlt
  have hen := enc_neg hz
  have hep := enc_nn hz
  obtain ⟨p, hp⟩ : ∃ p, decide (z < 0) = p := ⟨_, rfl⟩
  obtain ⟨x, hx⟩ : ∃ x, z.natAbs = x := ⟨_, rfl⟩
  rw [hp, hx]
  rw [hx] at hlt hn16 hsz hbl hA
  have d1 : decide ((1024 : Int) < (blen x : Nat)) = false := decide_eq_false (by omega)
  have d2 : (((blen x : Nat) : Int) == 1024) = false := by simp; omega
  have HSZ := hid hsz
  clear hsz
  generalize blen x = n at *
  cases p with
  | false =>
    have HE := hid (show x = enc z by have := of_decide_eq_false hp; have := (hep (by omega)).1; omega)
    clear hen hep hp hx hz hb16 hbp hlt
    unfold wideV
    go_enter Tryz.func50, Tryz.ntmps50
    go_wp2_with (first | (go_at_call 85; (with_reducible refine (HSZ.out _ gUp).mono ?_); rintro e wQ ⟨rfl, huS⟩))
    have hszS := huS.size
    have hgt : w.heap.size + 1 < wQ.heap.size := by simp at hszS; omega
    refine opU (S := (fun wq => Row wq (w.heap.size + 1) 33 16 (fun _ => 0) ∧ Row wq wQ.heap.size 33 16 (fun _ => 0) ∧ Blk wq w.heap.size 46 #[.bool false, .slice a (nl x) c] ∧ wq.cell? ⟨w.heap.size, 0, none⟩ = some (.bool false) ∧ wq.cell? ⟨w.heap.size, 1, none⟩ = some (.slice a (nl x) c) ∧ Below w.heap.size w wq)) (req := (fun _ => true)) (fun _ _ h hu => ⟨(h.1).up hu, (h.2.1).up hu, (h.2.2.1).up hu, hu.cell (h.2.2.2.1), hu.cell (h.2.2.2.2.1), below_up (h.2.2.2.2.2) hu⟩) ⟨gRow, gRow, gBlk, (by first | assumption | (apply Blk.cell; exact gBlk; exact rfl)), (by first | assumption | (apply Blk.cell; exact gBlk; exact rfl)), gUp⟩ (fun wS hSS hSu => ?_)
    have ⟨hS1, hS2, hS3, hS4, hS5, hSB⟩ := hSS
    refine tkP 0 (some 11) hSu ?_
    refine tkP 1 (some 12) hSu ?_
    refine tkP 2 (some 13) hSu ?_
    refine tkP 3 (some 14) hSu ?_
    refine tkP 4 (some 15) hSu ?_
    refine tkP 5 (some 16) hSu ?_
    refine tkS 6 (some 17) hSu ?_
    refine tkS 7 (some 18) hSu ?_
    refine tkS 8 (some 19) hSu ?_
    refine tkS 9 (some 20) hSu ?_
    refine tkS 10 (some 21) hSu ?_
    refine tkS 11 (some 22) hSu ?_
    refine tkS 12 (some 23) hSu ?_
    refine tkS 13 (some 24) hSu ?_
    refine tkS 14 (some 25) hSu ?_
    refine tkS 15 (some 26) hSu ?_
    refine tkS 16 (some 27) hSu ?_
    refine tkP 17 (some 28) hSu ?_
    refine tkP 18 (some 29) hSu ?_
    refine wpAnyU_done (by kernel_rfl) (fun wE huE => ?_) _
    have ⟨hS1, hS2, hS3, hS4, hS5, hSB⟩ := hSu.out _ _ hSS huE
    clear huE hSS
    have gZ := hS1
    have gW := hS2
    have gBx := hS3
    have gB := hSB
    clear huS
    go_wp2
    refine opU (S := (fun wq => Row wq (w.heap.size + 1) 33 16 (fun _ => 0) ∧ Row wq wQ.heap.size 33 16 (fun _ => 0) ∧ Blk wq w.heap.size 46 #[.bool false, .slice a (nl x) c] ∧ wq.cell? ⟨w.heap.size, 0, none⟩ = some (.bool false) ∧ wq.cell? ⟨w.heap.size, 1, none⟩ = some (.slice a (nl x) c) ∧ Below w.heap.size w wq)) (req := (fun j => j != 3)) (fun _ _ h hu => ⟨(h.1).up hu, (h.2.1).up hu, (h.2.2.1).up hu, hu.cell (h.2.2.2.1), hu.cell (h.2.2.2.2.1), below_up (h.2.2.2.2.2) hu⟩) ⟨gRow, gRow, gBlk, (by first | assumption | (apply Blk.cell; exact gBlk; exact rfl)), (by first | assumption | (apply Blk.cell; exact gBlk; exact rfl)), gUp⟩ (fun wS hSS hSu => ?_)
    have ⟨hS1, hS2, hS3, hS4, hS5, hSB⟩ := hSS
    refine tkP 0 (some 31) hSu ?_
    refine tkP 1 (some 32) hSu ?_
    refine tkT 2 (some 33) rfl hSu hSS ?_ (hy := fun w' hSw => by ((try dsimp only at hSw); (try obtain ⟨_, _, _, _, _, _⟩ := hSw); go_simp; (try exact rfl)))
    refine wpAnyU_one (i := 3) rfl (by kernel_rfl) (by rfl) fun w1 hw1 => ?_
    refine wp_copy rfl rfl rfl rfl (hA.up (below_up hSB hw1)) hn16 (hS2.up hw1) fun w2 hR2 hb2 => ?_
    refine ⟨fun h => by simp at h, ?_⟩
    try simp only [Act.put, pu1]
    refine wpAnyU_done (by kernel_rfl) (fun wF huE => ?_) _
    have hle := hS2.lt
    have hsw := hw1.size
    have gR := hR2.up huE
    have gZ := (Row.belowU hb2 hgt (hS1.up hw1)).up huE
    have gK := (Blk.belowU hb2 (by omega) (hS3.up hw1)).up huE
    have gB : Below w.heap.size w wF := below_up (Below.trans (below_up hSB hw1) (Below.mono hb2 (by omega))) huE
    clear hS1 hS2 hS3 hS4 hS5 hSB hSS hw1 huE hR2 hb2
    have hc0 := gK.cell 0 rfl
    rw [HE.out] at gR
    clear gK
    go_wp2_with (first | ((with_reducible apply ld_rowP undW infoW); exact rfl; exact rfl; exact gRow) | ((with_reducible apply st_rowP infoW); exact rfl; exact rfl; exact gRow) | ((with_reducible apply st_rowZ infoW); exact rfl; exact rfl; exact gRow))
    exact bodyPost_ret (res2 rfl undW infoW _ _ rfl gRow) rfl ⟨rfl, gUp⟩
  | true =>
    have HE := hid (show enc z = bp 16 - x ∧ 0 < x by have := of_decide_eq_true hp; have := (hen (by omega)).1; omega)
    have HR := hid (show x < bp 16 by omega)
    clear hen hep hp hx hz hb16 hbp hlt
    unfold wideV
    go_enter Tryz.func50, Tryz.ntmps50
    go_wp2_with (first | (go_at_call 85; (with_reducible refine (HSZ.out _ gUp).mono ?_); rintro e wQ ⟨rfl, huS⟩))
    have hszS := huS.size
    have hgt : w.heap.size + 1 < wQ.heap.size := by simp at hszS; omega
    refine opU (S := (fun wq => Row wq (w.heap.size + 1) 33 16 (fun _ => 0) ∧ Row wq wQ.heap.size 33 16 (fun _ => 0) ∧ Blk wq w.heap.size 46 #[.bool true, .slice a (nl x) c] ∧ wq.cell? ⟨w.heap.size, 0, none⟩ = some (.bool true) ∧ wq.cell? ⟨w.heap.size, 1, none⟩ = some (.slice a (nl x) c) ∧ Below w.heap.size w wq)) (req := (fun _ => true)) (fun _ _ h hu => ⟨(h.1).up hu, (h.2.1).up hu, (h.2.2.1).up hu, hu.cell (h.2.2.2.1), hu.cell (h.2.2.2.2.1), below_up (h.2.2.2.2.2) hu⟩) ⟨gRow, gRow, gBlk, (by first | assumption | (apply Blk.cell; exact gBlk; exact rfl)), (by first | assumption | (apply Blk.cell; exact gBlk; exact rfl)), gUp⟩ (fun wS hSS hSu => ?_)
    have ⟨hS1, hS2, hS3, hS4, hS5, hSB⟩ := hSS
    refine tkP 0 (some 11) hSu ?_
    refine tkP 1 (some 12) hSu ?_
    refine tkP 2 (some 13) hSu ?_
    refine tkP 3 (some 14) hSu ?_
    refine tkP 4 (some 15) hSu ?_
    refine tkP 5 (some 16) hSu ?_
    refine tkS 6 (some 17) hSu ?_
    refine tkS 7 (some 18) hSu ?_
    refine tkS 8 (some 19) hSu ?_
    refine tkS 9 (some 20) hSu ?_
    refine tkS 10 (some 21) hSu ?_
    refine tkS 11 (some 22) hSu ?_
    refine tkS 12 (some 23) hSu ?_
    refine tkS 13 (some 24) hSu ?_
    refine tkS 14 (some 25) hSu ?_
    refine tkS 15 (some 26) hSu ?_
    refine tkS 16 (some 27) hSu ?_
    refine tkP 17 (some 28) hSu ?_
    refine tkP 18 (some 29) hSu ?_
    refine wpAnyU_done (by kernel_rfl) (fun wE huE => ?_) _
    have ⟨hS1, hS2, hS3, hS4, hS5, hSB⟩ := hSu.out _ _ hSS huE
    clear huE hSS
    have gZ := hS1
    have gW := hS2
    have gBx := hS3
    have gB := hSB
    clear huS
    go_wp2
    refine opU (S := (fun wq => Row wq (w.heap.size + 1) 33 16 (fun _ => 0) ∧ Row wq wQ.heap.size 33 16 (fun _ => 0) ∧ Blk wq w.heap.size 46 #[.bool true, .slice a (nl x) c] ∧ wq.cell? ⟨w.heap.size, 0, none⟩ = some (.bool true) ∧ wq.cell? ⟨w.heap.size, 1, none⟩ = some (.slice a (nl x) c) ∧ Below w.heap.size w wq)) (req := (fun j => j != 3)) (fun _ _ h hu => ⟨(h.1).up hu, (h.2.1).up hu, (h.2.2.1).up hu, hu.cell (h.2.2.2.1), hu.cell (h.2.2.2.2.1), below_up (h.2.2.2.2.2) hu⟩) ⟨gRow, gRow, gBlk, (by first | assumption | (apply Blk.cell; exact gBlk; exact rfl)), (by first | assumption | (apply Blk.cell; exact gBlk; exact rfl)), gUp⟩ (fun wS hSS hSu => ?_)
    have ⟨hS1, hS2, hS3, hS4, hS5, hSB⟩ := hSS
    refine tkP 0 (some 31) hSu ?_
    refine tkP 1 (some 32) hSu ?_
    refine tkT 2 (some 33) rfl hSu hSS ?_ (hy := fun w' hSw => by ((try dsimp only at hSw); (try obtain ⟨_, _, _, _, _, _⟩ := hSw); go_simp; (try exact rfl)))
    refine wpAnyU_one (i := 3) rfl (by kernel_rfl) (by rfl) fun w1 hw1 => ?_
    refine wp_copy rfl rfl rfl rfl (hA.up (below_up hSB hw1)) hn16 (hS2.up hw1) fun w2 hR2 hb2 => ?_
    refine ⟨fun h => by simp at h, ?_⟩
    try simp only [Act.put, pu1]
    refine wpAnyU_done (by kernel_rfl) (fun wF huE => ?_) _
    have hle := hS2.lt
    have hsw := hw1.size
    have gR := hR2.up huE
    have gZ := (Row.belowU hb2 hgt (hS1.up hw1)).up huE
    have gK := (Blk.belowU hb2 (by omega) (hS3.up hw1)).up huE
    have gB : Below w.heap.size w wF := below_up (Below.trans (below_up hSB hw1) (Below.mono hb2 (by omega))) huE
    clear hS1 hS2 hS3 hS4 hS5 hSB hSS hw1 huE hR2 hb2
    have hc0 := gK.cell 0 rfl
    clear gK
    generalize wQ.heap.size = G at *
    go_wp2
    go_loopw [6, 7] (fun tc ti wr => ∃ (i cc : Nat) (S : Nat → Nat), i ≤ 16 ∧ tc = .int .u64 (cc : Nat) ∧ ti = .int .i64 (i : Nat) ∧ cc ≤ 1 ∧ (∀ j, j < 16 → S j < 18446744073709551616) ∧ sumL S i + cc * bp i + sumL (limb x) i = bp i ∧ (∀ j, i ≤ j → j < 16 → S j = limb x j) ∧
        Row wr (w.heap.size + 1) 33 16 (fun _ => 0) ∧ Row wr G 33 16 S ∧ Below w.heap.size w wr)
      (fun _ ti _ => 16 - (intOf ti).toNat)
    case atStart => exact ⟨0, 1, limb x, by omega, rfl, rfl, by omega, fun j _ => limb_lt x j, by simp [sumL_zero, bp_zero], fun _ _ _ => rfl, gZ, gR, gB⟩
    case round =>
      clear gZ gR gB
      obtain ⟨i, cc, S, hi, rfl, rfl, hcc, hSb, hsum, hrest, hZ, hS, hB⟩ := hrel
      have HSb := hid hSb
      have Hsum := hid hsum
      have Hrest := hid hrest
      clear hSb hsum hrest
      by_cases hlt : i < 16
      · have hcx := hS.cell i hlt
        rw [Hrest.out i (Nat.le_refl _) hlt] at hcx
        have hfi := limb_lt x i
        obtain ⟨r, c', hadd, hrc, hrl, hc1⟩ : ∃ r c' : Nat, (∀ w, (callFunc 88 #[.int .u64 (18446744073709551615 - limb x i : Nat), .int .u64 0, .int .u64 (cc : Nat)]).run Tryz.prog w = .ok (.value (.tuple #[.int .u64 (r : Nat), .int .u64 (c' : Nat)])) w) ∧ Hid (r + c' * 18446744073709551616 + limb x i = 18446744073709551615 + cc) ∧ r < 18446744073709551616 ∧ c' ≤ 1 := by
          have h := run_add (18446744073709551615 - limb x i) 0 cc hcc
          simp only [show ((0 : Nat) : Int) = 0 from rfl] at h
          exact ⟨_, _, h, hid (by omega), Nat.mod_lt _ (by decide), by omega⟩
        have hxor := bits_not hfi
        obtain ⟨Y, hY⟩ : ∃ Y, 18446744073709551615 - limb x i = Y := ⟨_, rfl⟩
        rw [hY] at hadd hxor
        clear hY
        have hfs := hS.frozen i
        have gZ := hZ.other ⟨G, i, none⟩ (.int .u64 (r : Nat)) (show w.heap.size + 1 ≠ G by omega)
        have gS := hS.set i r
        have gB := hB.setCell (p := ⟨G, i, none⟩) (show w.heap.size ≤ G by omega) (.int .u64 (r : Nat))
        clear hZ hS hB
        go_wp2
        go_roundw
        case rel =>
          refine ⟨i + 1, c', upd S i r, by omega, rfl, by go_num, hc1, upd_lt HSb.out hrl, ?_, fun j h1 h2 => by rw [upd_other _ _ _ (by omega)]; exact Hrest.out j (by omega) h2, gZ, gS, gB⟩
          rw [sumL_succ (limb x) i]
          exact comp_step Hsum.out rfl hrc.out
        case measure => simp [intOf] <;> omega
      · obtain rfl : i = 16 := by omega
        have he : sumL S 16 = enc z := by
          have h1 := Hsum.out
          have h3 := HE.out
          have h4 := HR.out
          have h5 := sumL_lt HSb.out
          rw [sumL_limb, Nat.mod_eq_of_lt (by omega)] at h1
          rcases Nat.eq_zero_or_pos cc with h0 | h0
          · subst h0; omega
          · have : 1 * bp 16 ≤ cc * bp 16 := Nat.mul_le_mul_right _ h0
            omega
        have gS : Row wr G 33 16 (limb (enc z)) := hS.congr fun j hj => by rw [← he]; exact (limb_sumL HSb.out hj).symm
        clear hS he HSb Hsum Hrest
        go_wp2_with (first | ((with_reducible apply ld_rowP undW infoW); exact rfl; exact rfl; exact gRow) | ((with_reducible apply st_rowP infoW); exact rfl; exact rfl; exact gRow) | ((with_reducible apply st_rowZ infoW); exact rfl; exact rfl; exact gRow))
        exact bodyPost_ret (res2 rfl undW infoW _ _ rfl gRow) rfl ⟨rfl, gUp⟩
set_option maxHeartbeats 4000000 in
theorem to_over {z : Int} {v : Value} {w : World} (h : Big w v z) (hlt : bp 16 ≤ z.natAbs) (hn : nl z.natAbs < 50000) :
    Calls Tryz.prog 50 #[v] w fun e w' => e = .returned (opt z) ∧ Up w w' := by
  have hbp := hb_pos
  have hb16 := bp16
  have hz : ¬ InR z := fun hr => by have := hr.out; omega
  rw [opt_no hz]
  obtain ⟨a, c, rfl, hA⟩ := h
  have hsz := fun w' (h : Up w w') => size_am (hA.up h) hn
  have hbl := blen_over hlt
  generalize decide (z < 0) = p at *
  generalize z.natAbs = x at *
  have d1 : decide ((1024 : Int) < (blen x : Nat)) = true := decide_eq_true (by omega)
  have HSZ := hid hsz
  clear hsz
  generalize blen x = n at *
  clear hz hb16 hbp hlt hbl
  go_enter Tryz.func50, Tryz.ntmps50
  go_wp2_with (first | (go_at_call 85; (with_reducible refine (HSZ.out _ gUp).mono ?_); rintro e wQ ⟨rfl, huS⟩))
  have hszS := huS.size
  have hgt : w.heap.size + 1 < wQ.heap.size := by simp at hszS; omega
  refine opU (S := (fun wq => Row wq (w.heap.size + 1) 33 16 (fun _ => 0) ∧ Row wq wQ.heap.size 33 16 (fun _ => 0) ∧ Below w.heap.size w wq)) (req := (fun _ => true)) (fun _ _ h hu => ⟨(h.1).up hu, (h.2.1).up hu, below_up (h.2.2) hu⟩) ⟨gRow, gRow, gUp⟩ (fun wS hSS hSu => ?_)
  have ⟨hS1, hS2, hSB⟩ := hSS
  refine tkP 0 (some 11) hSu ?_
  refine tkP 1 (some 12) hSu ?_
  refine tkP 2 (some 13) hSu ?_
  refine tkS 3 (some 14) hSu ?_
  refine tkS 4 (some 15) hSu ?_
  refine tkS 5 (some 16) hSu ?_
  refine tkS 6 (some 17) hSu ?_
  refine tkS 7 (some 18) hSu ?_
  refine tkS 8 (some 19) hSu ?_
  refine tkS 9 (some 20) hSu ?_
  refine tkS 10 (some 21) hSu ?_
  refine tkS 11 (some 22) hSu ?_
  refine tkS 12 (some 23) hSu ?_
  refine tkS 13 (some 24) hSu ?_
  refine tkS 14 (some 25) hSu ?_
  refine tkS 15 (some 26) hSu ?_
  refine tkS 16 (some 27) hSu ?_
  refine tkS 17 (some 28) hSu ?_
  refine tkP 18 (some 29) hSu ?_
  refine wpAnyU_done (by kernel_rfl) (fun wE huE => ?_) _
  have ⟨hS1, hS2, hSB⟩ := hSu.out _ _ hSS huE
  clear huE hSS
  have gZ := hS1
  have gW := hS2
  have gB := hSB
  clear huS
  go_wp2_with (first | ((with_reducible apply ld_rowP undW infoW); exact rfl; exact rfl; exact gRow) | ((with_reducible apply st_rowP infoW); exact rfl; exact rfl; exact gRow) | ((with_reducible apply st_rowZ infoW); exact rfl; exact rfl; exact gRow))
  exact bodyPost_ret (res2 rfl undW infoW _ _ rfl gRow) rfl ⟨rfl, gUp⟩
set_option maxHeartbeats 4000000 in
theorem to_mid {z : Int} {v : Value} {w : World} (h : Big w v z) (h1 : hb ≤ z) (h2 : z.natAbs < bp 16) :
    Calls Tryz.prog 50 #[v] w fun e w' => e = .returned (opt z) ∧ Up w w' := by
  have hbp := hb_pos
  have hz : ¬ InR z := fun hr => by have := hr.out; omega
  rw [opt_no hz]
  obtain ⟨a, c, rfl, hA⟩ := h
  have hn16 : nl z.natAbs ≤ 16 := nl_le h2
  have hsz := fun w' (h : Up w w') => size_am (hA.up h) (by omega)
  have hbl := blen_mid (x := z.natAbs) (by omega) h2
  have hp : decide (z < 0) = false := decide_eq_false (by omega)
  rw [hp] at *
  generalize z.natAbs = x at *
  rw [hbl] at hsz
  have d1 : decide ((1024 : Int) < (1024 : Nat)) = false := decide_eq_false (by omega)
  have d2 : (((1024 : Nat) : Int) == 1024) = true := by simp
  have HSZ := hid hsz
  clear hsz
  generalize 1024 = n at HSZ d1 d2
  clear hz hbp h1 h2 hbl
  go_enter Tryz.func50, Tryz.ntmps50
  go_wp2_with (first | (go_at_call 85; (with_reducible refine (HSZ.out _ gUp).mono ?_); rintro e wQ ⟨rfl, huS⟩))
  have hszS := huS.size
  have hgt : w.heap.size + 1 < wQ.heap.size := by simp at hszS; omega
  refine opU (S := (fun wq => Row wq (w.heap.size + 1) 33 16 (fun _ => 0) ∧ Row wq wQ.heap.size 33 16 (fun _ => 0) ∧ Blk wq w.heap.size 46 #[.bool false, .slice a (nl x) c] ∧ wq.cell? ⟨w.heap.size, 0, none⟩ = some (.bool false) ∧ Below w.heap.size w wq)) (req := (fun _ => true)) (fun _ _ h hu => ⟨(h.1).up hu, (h.2.1).up hu, (h.2.2.1).up hu, hu.cell (h.2.2.2.1), below_up (h.2.2.2.2) hu⟩) ⟨gRow, gRow, gBlk, (by first | assumption | (apply Blk.cell; exact gBlk; exact rfl)), gUp⟩ (fun wS hSS hSu => ?_)
  have ⟨hS1, hS2, hS3, hS4, hSB⟩ := hSS
  refine tkP 0 (some 11) hSu ?_
  refine tkP 1 (some 12) hSu ?_
  refine tkP 2 (some 13) hSu ?_
  refine tkP 3 (some 14) hSu ?_
  refine tkP 4 (some 15) hSu ?_
  refine tkP 5 (some 16) hSu ?_
  refine tkP 6 (some 17) hSu ?_
  refine tkT 7 (some 18) rfl hSu hSS ?_ (hy := fun w' hSw => by ((try dsimp only at hSw); (try obtain ⟨_, _, _, _, _⟩ := hSw); go_simp; (try exact rfl)))
  refine tkP 8 (some 19) hSu ?_
  refine tkP 9 (some 20) hSu ?_
  refine tkS 10 (some 21) hSu ?_
  refine tkS 11 (some 22) hSu ?_
  refine tkS 12 (some 23) hSu ?_
  refine tkS 13 (some 24) hSu ?_
  refine tkS 14 (some 25) hSu ?_
  refine tkS 15 (some 26) hSu ?_
  refine tkP 16 (some 27) hSu ?_
  refine tkP 17 (some 28) hSu ?_
  refine tkP 18 (some 29) hSu ?_
  refine wpAnyU_done (by kernel_rfl) (fun wE huE => ?_) _
  have ⟨hS1, hS2, hS3, hS4, hSB⟩ := hSu.out _ _ hSS huE
  clear huE hSS
  have gZ := hS1
  have gW := hS2
  have gB := hSB
  clear huS
  go_wp2_with (first | ((with_reducible apply ld_rowP undW infoW); exact rfl; exact rfl; exact gRow) | ((with_reducible apply st_rowP infoW); exact rfl; exact rfl; exact gRow) | ((with_reducible apply st_rowZ infoW); exact rfl; exact rfl; exact gRow))
  exact bodyPost_ret (res2 rfl undW infoW _ _ rfl gRow) rfl ⟨rfl, gUp⟩
theorem ord_iff {x y : Nat} : (((ordZ x y : Int) != 0) = true) ↔ x ≠ y := by
  unfold ordZ
  by_cases h1 : x < y
  · simp [h1]; omega
  · by_cases h2 : y < x
    · simp [h1, h2]; omega
    · simp [h1, h2]; omega
set_option maxHeartbeats 4000000 in
theorem to_below {z : Int} {v : Value} {w : World} (h : Big w v z) (h1 : z < -(hb : Int)) (h2 : z.natAbs < bp 16) :
    Calls Tryz.prog 50 #[v] w fun e w' => e = .returned (opt z) ∧ Up w w' := by
  have hbp := hb_pos
  have hz : ¬ InR z := fun hr => by have := hr.out; omega
  rw [opt_no hz]
  obtain ⟨a, c, rfl, hA⟩ := h
  have hn16 : nl z.natAbs ≤ 16 := nl_le h2
  have hnh : nl hb ≤ 16 := nl_le (by have := bp16; omega)
  have hsz := fun w' (h : Up w w') => size_am (hA.up h) (by omega)
  have hbl := blen_mid (x := z.natAbs) (by omega) h2
  have hp : decide (z < 0) = true := decide_eq_true (by omega)
  have ho : ((ordZ z.natAbs hb : Int) != 0) = true := ord_iff.2 (by omega)
  rw [hp] at *
  generalize z.natAbs = x at *
  rw [hbl] at hsz
  have d1 : decide ((1024 : Int) < (1024 : Nat)) = false := decide_eq_false (by omega)
  have d2 : (((1024 : Nat) : Int) == 1024) = true := by simp
  have HSZ := hid hsz
  have HO := hid ho
  have HA := hid hA
  clear hsz ho hA
  generalize 1024 = n at HSZ d1 d2
  clear hz hbp h1 h2 hbl
  go_enter Tryz.func50, Tryz.ntmps50
  go_wp2_with (first | (go_at_call 85; (with_reducible refine (HSZ.out _ gUp).mono ?_); rintro e wQ ⟨rfl, huS⟩))
  have hszS := huS.size
  have hgt : w.heap.size + 1 < wQ.heap.size := by simp at hszS; omega
  refine opU (S := (fun wq => Row wq (w.heap.size + 1) 33 16 (fun _ => 0) ∧ Row wq wQ.heap.size 33 16 (fun _ => 0) ∧ Blk wq w.heap.size 46 #[.bool true, .slice a (nl x) c] ∧ wq.cell? ⟨w.heap.size, 0, none⟩ = some (.bool true) ∧ wq.cell? ⟨w.heap.size, 1, none⟩ = some (.slice a (nl x) c) ∧ Below w.heap.size w wq)) (req := (fun _ => true)) (fun _ _ h hu => ⟨(h.1).up hu, (h.2.1).up hu, (h.2.2.1).up hu, hu.cell (h.2.2.2.1), hu.cell (h.2.2.2.2.1), below_up (h.2.2.2.2.2) hu⟩) ⟨gRow, gRow, gBlk, (by first | assumption | (apply Blk.cell; exact gBlk; exact rfl)), (by first | assumption | (apply Blk.cell; exact gBlk; exact rfl)), gUp⟩ (fun wS hSS hSu => ?_)
  have ⟨hS1, hS2, hS3, hS4, hS5, hSB⟩ := hSS
  refine tkP 0 (some 11) hSu ?_
  refine tkP 1 (some 12) hSu ?_
  refine tkP 2 (some 13) hSu ?_
  refine tkP 3 (some 14) hSu ?_
  refine tkP 4 (some 15) hSu ?_
  refine tkP 5 (some 16) hSu ?_
  refine tkP 6 (some 17) hSu ?_
  refine tkT 7 (some 18) rfl hSu hSS ?_ (hy := fun w' hSw => by ((try dsimp only at hSw); (try obtain ⟨_, _, _, _, _, _⟩ := hSw); go_simp; (try exact rfl)))
  refine tkP 8 (some 19) hSu ?_
  refine tkP 9 (some 20) hSu ?_
  refine tkP 10 (some 21) hSu ?_
  refine tkT 11 (some 22) rfl hSu hSS ?_ (hy := fun w' hSw => by ((try dsimp only at hSw); (try obtain ⟨_, _, _, _, _, _⟩ := hSw); go_simp; (try exact rfl)))
  refine wpAnyU_one (i := 12) rfl (by kernel_rfl) (by rfl) fun w1 hw1 => ?_
  go_simp
  refine ⟨fun h1 h2 h3 h4 h5 h6 => ⟨h1.up (Up.alloc _ _), h2.up (Up.alloc _ _), h3.up (Up.alloc _ _), (Up.alloc _ _).cell h4, (Up.alloc _ _).cell h5, below_up h6 (Up.alloc _ _)⟩, ?_⟩
  have gO : Row (w1.alloc (.cells #[.int .u64 1] 31)) w1.heap.size 31 1 (fun _ => 1) := row_one (X := 1) rfl
  have gSO : Up wS (w1.alloc (.cells #[.int .u64 1] 31)) := hw1.trans (Up.alloc _ _)
  have gU : Up w (w1.alloc (.cells #[.int .u64 1] 31)) := below_up hSB gSO
  generalize w1.alloc (.cells #[.int .u64 1] 31) = wO at *
  generalize w1.heap.size = bO at *
  refine wpAnyU_callE (i := 13) (d := (some 24)) rfl rfl (by kernel_rfl) (by rfl) hSu.out (fun w' => by go_simp) (fun w' hw' => (left_hb bO w' (fun w'' hu => ((gO.up hw').up hu).cell 0 (by decide)) (gO.up hw').lt)) fun vL wL hwL hRL => ?_
  try simp only [Act.put, pu1, pu2, pu3]
  refine wpAnyU_callE (i := 14) (d := (some 25)) rfl rfl (by kernel_rfl) (by rfl) hSu.out (fun w' => by go_simp) (fun w' hw' => (callE_of (cmp_am (HA.out.up ((gU.trans hwL).trans hw')) (hRL.up hw') (by omega) (by omega)))) fun vC wC hwC hRC => ?_
  try simp only [Act.put, pu1, pu2, pu3]
  obtain rfl := hRC
  have d3 := HO.out
  generalize ordZ x hb = o at *
  refine tkP 15 (some 26) hSu ?_
  refine tkP 16 (some 27) hSu ?_
  refine tkP 17 (some 28) hSu ?_
  refine tkP 18 (some 29) hSu ?_
  refine wpAnyU_done (by kernel_rfl) (fun wF huE => ?_) _
  have hE := ((gSO.trans hwL).trans hwC).trans huE
  have gZ := hS1.up hE
  have gW := hS2.up hE
  have gB := below_up hSB hE
  clear huS hS1 hS2 hS3 hS4 hS5 hSB hSS hE gSO gU hwL hwC huE gO
  go_wp2_with (first | ((with_reducible apply ld_rowP undW infoW); exact rfl; exact rfl; exact gRow) | ((with_reducible apply st_rowP infoW); exact rfl; exact rfl; exact gRow) | ((with_reducible apply st_rowZ infoW); exact rfl; exact rfl; exact gRow))
  exact bodyPost_ret (res2 rfl undW infoW _ _ rfl gRow) rfl ⟨rfl, gUp⟩
set_option maxHeartbeats 4000000 in
theorem to_least {z : Int} {v : Value} {w : World} (h : Big w v z) (h1 : z = -(hb : Int)) :
    Calls Tryz.prog 50 #[v] w fun e w' => e = .returned (opt z) ∧ Up w w' := by
  have hbp := hb_pos
  have hb16 := bp16
  have hz : InR z := InR.mk' (by omega)
  rw [opt_yes hz]
  obtain ⟨a, c, rfl, hA⟩ := h
  have hn16 : nl z.natAbs ≤ 16 := nl_le (by omega)
  have hnh : nl hb ≤ 16 := nl_le (by omega)
  have hsz := fun w' (h : Up w w') => size_am (hA.up h) (by omega)
  have hbl := blen_mid (x := z.natAbs) (by omega) (by omega)
  have hen := enc_neg hz
  have hp : decide (z < 0) = true := decide_eq_true (by omega)
  have ho : ((ordZ z.natAbs hb : Int) != 0) = false := by
    rw [show z.natAbs = hb by omega]
    unfold ordZ; simp
  obtain ⟨x, hx⟩ : ∃ x, z.natAbs = x := ⟨_, rfl⟩
  rw [hx] at hn16 hsz hbl hA ho hen
  rw [hp, hx]
  rw [hbl] at hsz
  have d1 : decide ((1024 : Int) < (1024 : Nat)) = false := decide_eq_false (by omega)
  have d2 : (((1024 : Nat) : Int) == 1024) = true := by simp
  have HSZ := hid hsz
  have HO := hid ho
  have HA := hid hA
  have HE := hid (show enc z = bp 16 - x ∧ 0 < x by have := (hen (by omega)).1; omega)
  have HR := hid (show x < bp 16 by omega)
  clear hsz ho hA hen
  generalize 1024 = n at HSZ d1 d2
  clear hbp h1 hbl hp hx hb16 hz
  unfold wideV
  go_enter Tryz.func50, Tryz.ntmps50
  go_wp2_with (first | (go_at_call 85; (with_reducible refine (HSZ.out _ gUp).mono ?_); rintro e wQ ⟨rfl, huS⟩))
  have hszS := huS.size
  have hgt : w.heap.size + 1 < wQ.heap.size := by simp at hszS; omega
  refine opU (S := (fun wq => Row wq (w.heap.size + 1) 33 16 (fun _ => 0) ∧ Row wq wQ.heap.size 33 16 (fun _ => 0) ∧ Blk wq w.heap.size 46 #[.bool true, .slice a (nl x) c] ∧ wq.cell? ⟨w.heap.size, 0, none⟩ = some (.bool true) ∧ wq.cell? ⟨w.heap.size, 1, none⟩ = some (.slice a (nl x) c) ∧ Below w.heap.size w wq)) (req := (fun _ => true)) (fun _ _ h hu => ⟨(h.1).up hu, (h.2.1).up hu, (h.2.2.1).up hu, hu.cell (h.2.2.2.1), hu.cell (h.2.2.2.2.1), below_up (h.2.2.2.2.2) hu⟩) ⟨gRow, gRow, gBlk, (by first | assumption | (apply Blk.cell; exact gBlk; exact rfl)), (by first | assumption | (apply Blk.cell; exact gBlk; exact rfl)), gUp⟩ (fun wS hSS hSu => ?_)
  have ⟨hS1, hS2, hS3, hS4, hS5, hSB⟩ := hSS
  refine tkP 0 (some 11) hSu ?_
  refine tkP 1 (some 12) hSu ?_
  refine tkP 2 (some 13) hSu ?_
  refine tkP 3 (some 14) hSu ?_
  refine tkP 4 (some 15) hSu ?_
  refine tkP 5 (some 16) hSu ?_
  refine tkP 6 (some 17) hSu ?_
  refine tkT 7 (some 18) rfl hSu hSS ?_ (hy := fun w' hSw => by ((try dsimp only at hSw); (try obtain ⟨_, _, _, _, _, _⟩ := hSw); go_simp; (try exact rfl)))
  refine tkP 8 (some 19) hSu ?_
  refine tkP 9 (some 20) hSu ?_
  refine tkP 10 (some 21) hSu ?_
  refine tkT 11 (some 22) rfl hSu hSS ?_ (hy := fun w' hSw => by ((try dsimp only at hSw); (try obtain ⟨_, _, _, _, _, _⟩ := hSw); go_simp; (try exact rfl)))
  refine wpAnyU_one (i := 12) rfl (by kernel_rfl) (by rfl) fun w1 hw1 => ?_
  go_simp
  refine ⟨fun h1 h2 h3 h4 h5 h6 => ⟨h1.up (Up.alloc _ _), h2.up (Up.alloc _ _), h3.up (Up.alloc _ _), (Up.alloc _ _).cell h4, (Up.alloc _ _).cell h5, below_up h6 (Up.alloc _ _)⟩, ?_⟩
  have gO : Row (w1.alloc (.cells #[.int .u64 1] 31)) w1.heap.size 31 1 (fun _ => 1) := row_one (X := 1) rfl
  have gSO : Up wS (w1.alloc (.cells #[.int .u64 1] 31)) := hw1.trans (Up.alloc _ _)
  have gU : Up w (w1.alloc (.cells #[.int .u64 1] 31)) := below_up hSB gSO
  generalize w1.alloc (.cells #[.int .u64 1] 31) = wO at *
  generalize w1.heap.size = bO at *
  refine wpAnyU_callE (i := 13) (d := (some 24)) rfl rfl (by kernel_rfl) (by rfl) hSu.out (fun w' => by go_simp) (fun w' hw' => (left_hb bO w' (fun w'' hu => ((gO.up hw').up hu).cell 0 (by decide)) (gO.up hw').lt)) fun vL wL hwL hRL => ?_
  try simp only [Act.put, pu1, pu2, pu3]
  refine wpAnyU_callE (i := 14) (d := (some 25)) rfl rfl (by kernel_rfl) (by rfl) hSu.out (fun w' => by go_simp) (fun w' hw' => (callE_of (cmp_am (HA.out.up ((gU.trans hwL).trans hw')) (hRL.up hw') (by omega) (by omega)))) fun vC wC hwC hRC => ?_
  try simp only [Act.put, pu1, pu2, pu3]
  obtain rfl := hRC
  have d3 := HO.out
  generalize ordZ x hb = o at *
  refine tkP 15 (some 26) hSu ?_
  refine tkP 16 (some 27) hSu ?_
  refine tkP 17 (some 28) hSu ?_
  refine tkP 18 (some 29) hSu ?_
  refine wpAnyU_done (by kernel_rfl) (fun wF huE => ?_) _
  have hE := ((gSO.trans hwL).trans hwC).trans huE
  have gZ := hS1.up hE
  have gW := hS2.up hE
  have gBx := hS3.up hE
  have gB := below_up hSB hE
  have hA := HA.out
  clear huS hS1 hS2 hS3 hS4 hS5 hSB hSS hE gSO gU hwL hwC huE gO
  go_wp2
  refine opU (S := (fun wq => Row wq (w.heap.size + 1) 33 16 (fun _ => 0) ∧ Row wq wQ.heap.size 33 16 (fun _ => 0) ∧ Blk wq w.heap.size 46 #[.bool true, .slice a (nl x) c] ∧ wq.cell? ⟨w.heap.size, 0, none⟩ = some (.bool true) ∧ wq.cell? ⟨w.heap.size, 1, none⟩ = some (.slice a (nl x) c) ∧ Below w.heap.size w wq)) (req := (fun j => j != 3)) (fun _ _ h hu => ⟨(h.1).up hu, (h.2.1).up hu, (h.2.2.1).up hu, hu.cell (h.2.2.2.1), hu.cell (h.2.2.2.2.1), below_up (h.2.2.2.2.2) hu⟩) ⟨gRow, gRow, gBlk, (by first | assumption | (apply Blk.cell; exact gBlk; exact rfl)), (by first | assumption | (apply Blk.cell; exact gBlk; exact rfl)), gUp⟩ (fun wS hSS hSu => ?_)
  have ⟨hS1, hS2, hS3, hS4, hS5, hSB⟩ := hSS
  refine tkP 0 (some 31) hSu ?_
  refine tkP 1 (some 32) hSu ?_
  refine tkT 2 (some 33) rfl hSu hSS ?_ (hy := fun w' hSw => by ((try dsimp only at hSw); (try obtain ⟨_, _, _, _, _, _⟩ := hSw); go_simp; (try exact rfl)))
  refine wpAnyU_one (i := 3) rfl (by kernel_rfl) (by rfl) fun w1 hw1 => ?_
  refine wp_copy rfl rfl rfl rfl (hA.up (below_up hSB hw1)) hn16 (hS2.up hw1) fun w2 hR2 hb2 => ?_
  refine ⟨fun h => by simp at h, ?_⟩
  try simp only [Act.put, pu1]
  refine wpAnyU_done (by kernel_rfl) (fun wF huE => ?_) _
  have hle := hS2.lt
  have hsw := hw1.size
  have gR := hR2.up huE
  have gZ := (Row.belowU hb2 hgt (hS1.up hw1)).up huE
  have gK := (Blk.belowU hb2 (by omega) (hS3.up hw1)).up huE
  have gB : Below w.heap.size w wF := below_up (Below.trans (below_up hSB hw1) (Below.mono hb2 (by omega))) huE
  clear hS1 hS2 hS3 hS4 hS5 hSB hSS hw1 huE hR2 hb2
  have hc0 := gK.cell 0 rfl
  clear gK
  generalize wQ.heap.size = G at *
  go_wp2
  go_loopw [6, 7] (fun tc ti wr => ∃ (i cc : Nat) (S : Nat → Nat), i ≤ 16 ∧ tc = .int .u64 (cc : Nat) ∧ ti = .int .i64 (i : Nat) ∧ cc ≤ 1 ∧ (∀ j, j < 16 → S j < 18446744073709551616) ∧ sumL S i + cc * bp i + sumL (limb x) i = bp i ∧ (∀ j, i ≤ j → j < 16 → S j = limb x j) ∧
      Row wr (w.heap.size + 1) 33 16 (fun _ => 0) ∧ Row wr G 33 16 S ∧ Below w.heap.size w wr)
    (fun _ ti _ => 16 - (intOf ti).toNat)
  case atStart => exact ⟨0, 1, limb x, by omega, rfl, rfl, by omega, fun j _ => limb_lt x j, by simp [sumL_zero, bp_zero], fun _ _ _ => rfl, gZ, gR, gB⟩
  case round =>
    clear gZ gR gB
    obtain ⟨i, cc, S, hi, rfl, rfl, hcc, hSb, hsum, hrest, hZ, hS, hB⟩ := hrel
    have HSb := hid hSb
    have Hsum := hid hsum
    have Hrest := hid hrest
    clear hSb hsum hrest
    by_cases hlt : i < 16
    · have hcx := hS.cell i hlt
      rw [Hrest.out i (Nat.le_refl _) hlt] at hcx
      have hfi := limb_lt x i
      obtain ⟨r, c', hadd, hrc, hrl, hc1⟩ : ∃ r c' : Nat, (∀ w, (callFunc 88 #[.int .u64 (18446744073709551615 - limb x i : Nat), .int .u64 0, .int .u64 (cc : Nat)]).run Tryz.prog w = .ok (.value (.tuple #[.int .u64 (r : Nat), .int .u64 (c' : Nat)])) w) ∧ Hid (r + c' * 18446744073709551616 + limb x i = 18446744073709551615 + cc) ∧ r < 18446744073709551616 ∧ c' ≤ 1 := by
        have h := run_add (18446744073709551615 - limb x i) 0 cc hcc
        simp only [show ((0 : Nat) : Int) = 0 from rfl] at h
        exact ⟨_, _, h, hid (by omega), Nat.mod_lt _ (by decide), by omega⟩
      have hxor := bits_not hfi
      obtain ⟨Y, hY⟩ : ∃ Y, 18446744073709551615 - limb x i = Y := ⟨_, rfl⟩
      rw [hY] at hadd hxor
      clear hY
      have hfs := hS.frozen i
      have gZ := hZ.other ⟨G, i, none⟩ (.int .u64 (r : Nat)) (show w.heap.size + 1 ≠ G by omega)
      have gS := hS.set i r
      have gB := hB.setCell (p := ⟨G, i, none⟩) (show w.heap.size ≤ G by omega) (.int .u64 (r : Nat))
      clear hZ hS hB
      go_wp2
      go_roundw
      case rel =>
        refine ⟨i + 1, c', upd S i r, by omega, rfl, by go_num, hc1, upd_lt HSb.out hrl, ?_, fun j h1 h2 => by rw [upd_other _ _ _ (by omega)]; exact Hrest.out j (by omega) h2, gZ, gS, gB⟩
        rw [sumL_succ (limb x) i]
        exact comp_step Hsum.out rfl hrc.out
      case measure => simp [intOf] <;> omega
    · obtain rfl : i = 16 := by omega
      have he : sumL S 16 = enc z := by
        have h1 := Hsum.out
        have h3 := HE.out
        have h4 := HR.out
        have h5 := sumL_lt HSb.out
        rw [sumL_limb, Nat.mod_eq_of_lt (by omega)] at h1
        rcases Nat.eq_zero_or_pos cc with h0 | h0
        · subst h0; omega
        · have : 1 * bp 16 ≤ cc * bp 16 := Nat.mul_le_mul_right _ h0
          omega
      have gS : Row wr G 33 16 (limb (enc z)) := hS.congr fun j hj => by rw [← he]; exact (limb_sumL HSb.out hj).symm
      clear hS he HSb Hsum Hrest
      go_wp2_with (first | ((with_reducible apply ld_rowP undW infoW); exact rfl; exact rfl; exact gRow) | ((with_reducible apply st_rowP infoW); exact rfl; exact rfl; exact gRow) | ((with_reducible apply st_rowZ infoW); exact rfl; exact rfl; exact gRow))
      exact bodyPost_ret (res2 rfl undW infoW _ _ rfl gRow) rfl ⟨rfl, gUp⟩
theorem to_any {z : Int} {v : Value} {w : World} (h : Big w v z) (hn : nl z.natAbs < 50000) :
    Calls Tryz.prog 50 #[v] w fun e w' => e = .returned (opt z) ∧ Up w w' := by
  have hb16 := bp16
  by_cases h1 : z.natAbs < hb
  · exact to_small h h1
  by_cases h2 : bp 16 ≤ z.natAbs
  · exact to_over h h2 hn
  by_cases h3 : 0 ≤ z
  · exact to_mid h (by omega) (by omega)
  by_cases h4 : z = -(hb : Int)
  · exact to_least h h4
  · exact to_below h (by omega) (by omega)
theorem eqSP {ops : Array Oper} {rest : List Oper} {Q : Exit → Act → World → Prop} {a : Act} {w : World} {d : Option Tmp} {s r : Tmp} {u ty : TypeId} {pos : String} {af : Array Edge} {gd : Option (Nat × Bool)} {p : Nat}
    (hw : Region.wanted { dst := d, op := .binOp .eql 33 (.tmp s) (.tmp r) u, type := ty, pos := pos, after := af, guard := gd } (yielded ops a.tmps) = true) (hx : a.eval (.tmp s) = .agg (cells 16 (limb p))) (hy : a.eval (.tmp r) = .agg (cells 16 (limb p))) (hp : p < bp 16)
    (h : wpList Tryz.prog ops Q rest (a.put d (.bool true)) w) : wpList Tryz.prog ops Q ({ dst := d, op := .binOp .eql 33 (.tmp s) (.tmp r) u, type := ty, pos := pos, after := af, guard := gd } :: rest) a w := wpList_run hw (op_eqS rfl hx hy hp w) h
set_option maxHeartbeats 1000000 in
theorem help_wide {z : Int} {u : Value} {w : World} (hz : InR z) (h : Big w u z) (hn : nl z.natAbs < 50000) :
    Calls Tryz.prog 15 #[wideV (enc z), u] w fun e w' => e = .returned (.bool true) ∧ Up w w' := by
  obtain ⟨b, a, n, c, rfl⟩ := h.shape
  have hl := enc_lt z
  have hT := fun w' (hu : Up w w') => to_any (h.up hu) hn
  rw [opt_yes hz] at hT
  unfold wideV at *
  generalize enc z = y at *
  have HT := hid hT
  clear hT h hz
  go_enter Tryz.func15, Tryz.ntmps15
  go_wp2_with (first | go_skip | ((with_reducible apply ld_rowP undW infoW); exact rfl; exact rfl; exact gRow) | ((with_reducible apply st_rowP infoW); exact rfl; exact rfl; exact gRow) | ((with_reducible apply st_rowZ infoW); exact rfl; exact rfl; exact gRow) | ((with_reducible apply ldB_P); exact rfl; exact rfl; exact gBlk; exact rfl) | ((with_reducible apply eqSP); exact rfl; exact rfl; exact rfl; assumption) | (go_at_call 50; (with_reducible refine (HT.out _ gUp).mono ?_); rintro e wT ⟨rfl, huT⟩; have hsT := huT.size; (try simp at hsT)))
  go_ret
  exact ⟨rfl, gUp⟩
theorem sm_ex {w : World} {v : Value} (h : Vw w v [2, 1, 2]) : Sm w (.agg #[.int .i64 2, v]) 2 [2, 1, 2] :=
  ⟨_, rfl, h, by unfold I64; omega, fun i hi => by
    rcases i with _ | _ | _ | i
    · unfold I64; decide
    · unfold I64; decide
    · unfold I64; decide
    · simp at hi; omega, by simp⟩
theorem sm_nought {w : World} {v : Value} (h : Vw w v [0]) : Sm w (.agg #[.int .i64 1, v]) 1 [0] :=
  ⟨_, rfl, h, by unfold I64; omega, fun i hi => by
    rcases i with _ | i
    · unfold I64; decide
    · simp at hi, by simp⟩
theorem ssays_any {u : Value} {e : Int} {w : World} (h : ErrsP solveB w u e) (hg : Glob w) :
    Calls Tryz.prog 30 #[u, .int .i64 e] w fun r w' => r = .returned (.bool true) ∧ Up w w' := by
  rcases h with ⟨rfl, rfl⟩ | ⟨h0, t, x, rfl, hE⟩
  · go_enter Tryz.func30, Tryz.ntmps30
    go_wp2_with fail
    go_ret
    exact ⟨rfl, Up.refl _⟩
  · have d : (e == 0) = false := by simpa using h0
    have HO := hid (fun w' (hu : Up w w') => ops_any (hE.up hu) (show 1 < 1000000 by decide))
    have HC := hid (fun w' (hu : Up w w') => code_any (hE.up hu) (hg.up hu))
    have de : (e == e) = true := by simp
    have dB : (solveB.toList == [115, 111, 108, 118, 101]) = true := by rw [show solveB.toList = [115, 111, 108, 118, 101] from by rw [ByteArray.toList_eq]; rfl]; rfl
    clear hE hg h0
    go_enter Tryz.func30, Tryz.ntmps30
    go_wp2_with (first
      | (go_at_call 48; (with_reducible refine (HO.out _ (Up.refl _)).mono ?_); rintro r w1 ⟨s, rfl, hu1, hs⟩; obtain ⟨g, cap, C, rfl, hB, h0⟩ := own_one hs)
      | (go_at_call 49; (with_reducible refine (HC.out _ hu1).mono ?_); rintro r w2 ⟨rfl, hu2⟩; have hc := (hB.up hu2).cell 0 h0; have de2 : ((Er.flt solveB (.num e)).first.getD 36 == e) = true := by (show (e == e) = true; simp)))
    go_ret
    exact ⟨rfl, hu1.trans hu2⟩
theorem k_near : neC 2 [2, 1, 2] [3, 3] = 0 ∧ neL 2 [2, 1, 2] [3, 3] = [1, 1] := by decide +kernel
theorem k_res : rsC 2 [2, 1, 2] [1, 1] [3, 4] = 0 ∧ rsV 2 [2, 1, 2] [1, 1] [3, 4] = 1 := by decide +kernel
theorem k_bad : neC 1 [0] [1] = 30 := by decide +kernel
theorem in64_pair {a b : Int} (ha : I64 a) (hb' : I64 b) : In64 [a, b] := fun i hi => by
  rcases i with _ | _ | i
  · exact ha
  · exact hb'
  · simp at hi; omega
theorem in64_sole {a : Int} (ha : I64 a) : In64 [a] := fun i hi => by
  rcases i with _ | i
  · exact ha
  · simp at hi
set_option maxHeartbeats 8000000 in
theorem sknown_true {w : World} (hg : Glob w) :
    Calls Tryz.prog 24 #[] w fun r w' => r = .returned (.bool true) ∧ Up w w' := by
  have HG := hid (fun w' (hu : Up w w') => hg.up hu)
  have hW := vw_three w 2 1 2
  obtain ⟨wA, hwA⟩ : ∃ y, w.alloc (.cells #[.int .i64 2, .int .i64 1, .int .i64 2] 2) = y := ⟨_, rfl⟩
  have hUA : Up w wA := by rw [← hwA]; exact Up.alloc _ _
  obtain ⟨bA, hbA⟩ : ∃ y, w.heap.size = y := ⟨_, rfl⟩
  rw [hwA, hbA] at hW
  obtain ⟨wB, hwB⟩ : ∃ y, wA.alloc (.cells #[.int .i64 2, .slice (some ⟨bA, 0, none⟩) 3 3] 24) = y := ⟨_, rfl⟩
  have hB : Blk wB wA.heap.size 24 #[.int .i64 2, .slice (some ⟨bA, 0, none⟩) 3 3] := by rw [← hwB]; exact Blk.new _ _ rfl
  have hUB : Up wA wB := by rw [← hwB]; exact Up.alloc _ _
  obtain ⟨bB, hbB⟩ : ∃ y, wA.heap.size = y := ⟨_, rfl⟩
  rw [hbB] at hB
  have HS := hid (fun w' (hu : Up wB w') => sm_ex (Vw.up (hUB.trans hu) hW))
  have i1 : I64 1 := by unfold I64; decide
  have i3 : I64 3 := by unfold I64; decide
  have i4 : I64 4 := by unfold I64; decide
  have HN := hid (fun w' (hu : Up wB w') => show Calls Tryz.prog 28 #[.agg #[.int .i64 2, .slice (some ⟨bA, 0, none⟩) 3 3], .slice (some ⟨w'.heap.size, 0, none⟩) 2 2] (w'.alloc (.cells #[.int .i64 3, .int .i64 3] 2)) fun r w'' => ∃ z u, r = .returned (.tuple #[z, u]) ∧ Up (w'.alloc (.cells #[.int .i64 3, .int .i64 3] 2)) w'' ∧ Vw w'' z [1, 1] ∧ u = .nilIface from by
    have h := near_sol (HS.out _ (hu.trans (Up.alloc w' _))) (vw_two w' 3 3) (in64_pair i3 i3) (by simp)
    unfold NearPost at h
    rw [k_near.1, k_near.2] at h
    refine h.mono ?_
    rintro r w1 ⟨z, u, rfl, hu1, hV, -, he⟩
    exact ⟨z, u, rfl, hu1, hV, he.elim (fun h => h.2) (fun h => absurd rfl h.1)⟩)
  have HR := hid (fun w' (hu : Up wB w') => show Calls Tryz.prog 60 #[.agg #[.int .i64 2, .slice (some ⟨bA, 0, none⟩) 3 3], .slice (some ⟨w'.heap.size, 0, none⟩) 2 2, .slice (some ⟨w'.heap.size + 1, 0, none⟩) 2 2] ((w'.alloc (.cells #[.int .i64 1, .int .i64 1] 2)).alloc (.cells #[.int .i64 3, .int .i64 4] 2)) fun r w'' => r = .returned (.tuple #[.int .i64 1, .nilIface]) ∧ Up ((w'.alloc (.cells #[.int .i64 1, .int .i64 1] 2)).alloc (.cells #[.int .i64 3, .int .i64 4] 2)) w'' from by
    have h2 := vw_two (w'.alloc (.cells #[.int .i64 1, .int .i64 1] 2)) 3 4
    rw [show (w'.alloc (.cells #[.int .i64 1, .int .i64 1] 2)).heap.size = w'.heap.size + 1 from by simp] at h2
    have h := residual_any (HS.out _ (hu.trans ((Up.alloc w' _).trans (Up.alloc _ _)))) (Vw.up (Up.alloc _ _) (vw_two w' 1 1)) h2 (in64_pair i1 i1) (in64_pair i3 i4) (by simp) (by simp)
    unfold ResPost at h
    rw [k_res.1, k_res.2] at h
    refine h.mono ?_
    rintro r w1 ⟨u, rfl, hu1, he⟩
    obtain rfl := he.elim (fun h => h.2) (fun h => absurd rfl h.1)
    exact ⟨rfl, hu1⟩)
  have HX := hid (fun (w' : World) => show Calls Tryz.prog 28 #[.agg #[.int .i64 1, .slice (some ⟨w'.heap.size, 0, none⟩) 1 1], .slice (some ⟨w'.heap.size + 1, 0, none⟩) 1 1] ((w'.alloc (.cells #[.int .i64 0] 2)).alloc (.cells #[.int .i64 1] 2)) fun r w'' => ∃ z u, r = .returned (.tuple #[z, u]) ∧ Up ((w'.alloc (.cells #[.int .i64 0] 2)).alloc (.cells #[.int .i64 1] 2)) w'' ∧ ErrsP solveB w'' u 30 from by
    have h2 := vw_one (w'.alloc (.cells #[.int .i64 0] 2)) 1
    rw [show (w'.alloc (.cells #[.int .i64 0] 2)).heap.size = w'.heap.size + 1 from by simp] at h2
    have h := near_sol (sm_nought (Vw.up (Up.alloc _ _) (vw_one w' 0))) h2 (in64_sole i1) (by simp)
    unfold NearPost at h
    rw [k_bad] at h
    refine h.mono ?_
    rintro r w1 ⟨z, u, rfl, hu1, -, -, he⟩
    exact ⟨z, u, rfl, hu1, he⟩)
  have hU := hUA.trans hUB
  clear hg hW hUA hUB i1 i3 i4
  go_enter Tryz.func24, Tryz.ntmps24
  go_upto_region 4 with (first
    | ((with_reducible apply ldM_P); exact rfl; exact rfl; (first | exact hB | exact hB1); exact rfl)
    | (go_at_call 28; (with_reducible refine (HN.out _ (Up.refl _)).mono ?_); rintro r w1 ⟨z1, u1, rfl, hu1, hV1, rfl⟩; have hU1 := (Up.alloc wB _).trans hu1; have hB1 := hB.up hU1; obtain ⟨p1, c1, rfl, -, -⟩ := id hV1; change Vw w1 (.slice p1 2 c1) [1, 1] at hV1)
    | (go_at_call 60; (with_reducible refine (HR.out _ hU1).mono ?_); rintro r w2 ⟨rfl, hu2⟩; have hU2 := (Up.alloc w1 _).trans ((Up.alloc _ _).trans hu2)))
  have hV2 := Vw.up hU2 hV1
  have hU3 := hU.trans (hU1.trans hU2)
  clear hV1 hu1 hu2 hB1 hB hwA hwB hbA hbB
  go_wp2_with (first
    | (go_at_call 28; (with_reducible refine (HX.out _).mono ?_); rintro r w3 ⟨z3, u3, rfl, hu3, he3⟩; have hU4 := (Up.alloc w2 _).trans ((Up.alloc _ _).trans hu3); have hU5 := hU3.trans hU4; have hV4 := Vw.up hU4 hV2)
    | (go_at_call 32; (with_reducible refine (ints_eq (Vw.up (Up.alloc _ _) hV4) (vw_two _ 1 1) (by simp)).mono ?_); rintro r w4 ⟨rfl, hu4⟩; have hU6 := (Up.alloc w3 _).trans hu4)
    | (go_at_call 30; (with_reducible refine (ssays_any (he3.up hU6) (HG.out _ (hU5.trans hU6))).mono ?_); rintro r w5 ⟨rfl, hu5⟩))
  go_ret
  exact ⟨rfl, hU5.trans (hU6.trans hu5)⟩
set_option linter.unusedSimpArgs false
section
variable {P : Program} {ops : Array Oper} {Q : Exit → Act → World → Prop} {md : Region.Mode}
structure SG where
  p : Value → World → Prop
  up : ∀ v w w', p v w → Up w w' → p v w'
  b : Option Bool
  hb : ∀ c, b = some c → ∀ v w, p v w → v = .bool c
  u : Bool
  hu : u = true → ∀ w, p undef w
def SG.is (c : Value) : SG := ⟨fun v _ => v = c, fun _ _ _ h _ => h, none, (by simp), false, (by simp)⟩
def SG.tt (c : Bool) : SG := ⟨fun v _ => v = .bool c, fun _ _ _ h _ => h, some c, (fun _ h _ _ e => (by injection h with h; subst h; exact e)), false, (by simp)⟩
def SG.no : SG := ⟨fun v _ => v = undef, fun _ _ _ h _ => h, none, (by simp), true, (by simp)⟩
def SG.any : SG := ⟨fun _ _ => True, fun _ _ _ h _ => h, none, (by simp), true, (by simp)⟩
def SG.of (p : Value → World → Prop) (up : ∀ v w w', p v w → Up w w' → p v w') : SG := ⟨p, up, none, (by simp), false, (by simp)⟩
end
theorem vfit_false_of {z : Int} (h : vfit z = false) : 72057594037927936 < z ∨ z < -72057594037927936 := by
  unfold vfit at h
  have := of_decide_eq_false h
  omega
set_option maxHeartbeats 8000000 in
theorem rfine_any {v vl : Value} {N : Int} {l : List Int} {Ls : List (List Int)} {w : World} (hm : Sm w v N l) (hL : Lv w vl Ls) (hI : ∀ i, In64 (Ls.getD i [])) (hs : ∀ i, (Ls.getD i []).length ≤ 1000) (h9 : Ls.length ≤ 9) :
    Calls Tryz.prog 63 #[v, vl] w fun r w' => r = .returned (.int .i64 (ftC N l Ls)) ∧ Up w w' := by
  have HR := hid (fun w' (hu : Up w w') => rright_any (hm.up hu))
  obtain ⟨s, rfl, ⟨p, cap, rfl, -, -⟩, -, -, -⟩ := hm
  obtain ⟨pL, cL, rfl, hE⟩ := hL
  obtain ⟨W0, hW0⟩ : ∃ W0, w.alloc (.cells #[.int .i64 N, .slice p l.length cap] 24) = W0 := ⟨_, rfl⟩
  have hB : Blk W0 w.heap.size 24 #[.int .i64 N, .slice p l.length cap] := by rw [← hW0]; exact Blk.new _ _ rfl
  have hU : Up w W0 := by rw [← hW0]; exact Up.alloc _ _
  cases hR : rt N l with
  | false =>
    have e : ftC N l Ls = 23 := by unfold ftC; rw [if_neg (by rw [hR]; simp)]
    rw [e]
    rw [hR] at HR
    clear e hR hE hI hs h9
    go_enter Tryz.func63, Tryz.ntmps63
    go_wp2_with (first
      | ((with_reducible apply ldM_P); exact rfl; exact rfl; exact hB; exact rfl)
      | (go_at_call 12; (with_reducible refine (HR.out _ hU).mono ?_); rintro r w1 ⟨rfl, hu1⟩))
    go_ret
    exact ⟨rfl, hU.trans hu1⟩
  | true =>
    rw [hR] at HR
    have HE := hid (fun w' (hu : Up w w') i (hi : i < Ls.length) => show ∃ a s, pL = some a ∧ w'.cell? (a.add i) = some s ∧ Vw w' s (Ls.getD i []) from by obtain ⟨a, s, h1, h2, h3⟩ := hE i hi; exact ⟨a, s, h1, hu.cellEq h2, h3.up hu⟩)
    have HI := hid hI
    have HS := hid hs
    have HC : Hid (ftC N l Ls = if (∀ i, i < Ls.length → ((Ls.getD i []).length : Int) = N) then (if ∀ i, i < Ls.length → (Ls.getD i []).all vfit = true then 0 else 21) else 23) := hid (by unfold ftC; simp only [hR, true_and])
    have hn9 : Ls.length < 1000000 := by omega
    clear hE hI hs hR
    obtain ⟨C, hC⟩ : ∃ C, ftC N l Ls = C := ⟨_, rfl⟩
    rw [hC] at HC ⊢
    clear hC
    go_enter Tryz.func63, Tryz.ntmps63
    go_wp2_with (first
      | ((with_reducible apply ldM_P); exact rfl; exact rfl; exact hB; exact rfl)
      | (go_at_call 12; (with_reducible refine (HR.out _ hU).mono ?_); rintro r w1 ⟨rfl, hu1⟩; replace hB := hB.up hu1; replace hU := hU.trans hu1))
    clear hu1 hW0
    go_loopg [5] Ls.length (fun g ti wr => ∃ i : Nat, i ≤ Ls.length ∧ Ls.length - i ≤ g ∧ ti = .int .i64 (i : Nat) ∧ (∀ j, j < i → ((Ls.getD j []).length : Int) = N) ∧ Up w1 wr)
    case atStart => exact ⟨0, Nat.zero_le _, by omega, rfl, fun j hj => absurd hj (Nat.not_lt_zero _), Up.refl _⟩
    case round =>
      obtain ⟨i, hi, hig, rfl, hz, hu⟩ := hrel
      have HZ := hid hz
      clear hz
      have hc0 := (hB.up hu).cell 0 rfl
      by_cases hlt : i < Ls.length
      · obtain ⟨ad, s, rfl, hcx, hV⟩ := HE.out _ (hU.trans hu) i hlt
        obtain ⟨ps, cs, rfl, -, -⟩ := hV
        have e1 : IntKind.i64.wrap ((i : Int) + 1) = (i : Int) + 1 := IntWalk.i64_in _ (by omega)
        obtain ⟨n, hn⟩ : ∃ n, (Ls.getD i []).length = n := ⟨_, rfl⟩
        have HN := hid hn
        rw [hn] at hcx
        clear hn
        by_cases hne : (n : Int) = N
        · have d1 : ((n : Int) != N) = false := by rw [hne]; simp
          have HNe := hid hne
          clear hne
          go_wp2_with fail
          refine wp_region_sp (n := 58) 8 [17, 18, 19, 20, 21, 22, 23, 24] [SP.is (.slice (some ad) Ls.length cL), SP.is (.int .i64 (i : Nat)), SP.is (.pointer (some (ad.add i))), SP.is (.slice ps n cs), SP.is (.int .i64 (n : Nat)), SP.is (.pointer (some ⟨w.heap.size, 0, none⟩)), SP.is (.int .i64 N), SP.is (.bool false)] (fun wq => wq.cell? (ad.add i) = some (.slice ps n cs) ∧ wq.cell? ⟨w.heap.size, 0, none⟩ = some (.int .i64 N) ∧ Up wr wq ∧ Below w.heap.size w wq) (by kernel_rfl) (by rfl) (by kernel_rfl) (by kernel_rfl) (fun _ _ h hu => ⟨hu.cell (h.1), hu.cell (h.2.1), (h.2.2.1).trans hu, below_up (h.2.2.2) hu⟩) ⟨(by assumption), (by assumption), (by first | exact Up.refl _ | assumption), gUp⟩ (fun ev w9 hS9 i o hne hi hev => ?_) (fun gR wE hq hSE huE => ?_)
          · have ⟨hS1, hS2, hS3, hSB⟩ := hS9
            have hcC := hev.const
            have hcF := hev.func
            have hcG := hev.global
            rcases i with _ | _ | _ | _ | _ | _ | _ | _ | i
            · obtain rfl := Option.some.inj (show some _ = some o from hi)
              have e1 := hev.other 1 (by kernel_rfl)
              simp [Act.eval] at e1
              exact leavesR_value (u := .slice (some ad) Ls.length cL) (by first | (go_simp; done) | (go_simp; exact rfl)) rfl
            · obtain rfl := Option.some.inj (show some _ = some o from hi)
              have e5 := hev.other 5 (by kernel_rfl)
              simp [Act.eval] at e5
              exact leavesR_value (u := .int .i64 (i : Nat)) (by first | (go_simp; done) | (go_simp; exact rfl)) rfl
            · obtain rfl := Option.some.inj (show some _ = some o from hi)
              have e17 : ev (.tmp 17) = (.slice (some ad) Ls.length cL) := hev.dep 0 17 (by kernel_rfl)
              have e18 : ev (.tmp 18) = (.int .i64 (i : Nat)) := hev.dep 1 18 (by kernel_rfl)
              exact leavesR_value (u := .pointer (some (ad.add i))) (by first | (go_simp; done) | (go_simp; exact rfl)) rfl
            · obtain rfl := Option.some.inj (show some _ = some o from hi)
              have e19 : ev (.tmp 19) = (.pointer (some (ad.add i))) := hev.dep 2 19 (by kernel_rfl)
              exact leavesR_value (u := .slice ps n cs) (by go_simp) rfl
            · obtain rfl := Option.some.inj (show some _ = some o from hi)
              have e20 : ev (.tmp 20) = (.slice ps n cs) := hev.dep 3 20 (by kernel_rfl)
              exact leavesR_value (u := .int .i64 (n : Nat)) (by first | (go_simp; done) | (go_simp; exact rfl)) rfl
            · obtain rfl := Option.some.inj (show some _ = some o from hi)
              have e2 := hev.other 2 (by kernel_rfl)
              simp [Act.eval] at e2
              exact leavesR_value (u := .pointer (some ⟨w.heap.size, 0, none⟩)) (by first | (go_simp; done) | (go_simp; exact rfl)) rfl
            · obtain rfl := Option.some.inj (show some _ = some o from hi)
              have e22 : ev (.tmp 22) = (.pointer (some ⟨w.heap.size, 0, none⟩)) := hev.dep 5 22 (by kernel_rfl)
              exact leavesR_value (u := .int .i64 N) (by go_simp) rfl
            · obtain rfl := Option.some.inj (show some _ = some o from hi)
              have e21 : ev (.tmp 21) = (.int .i64 (n : Nat)) := hev.dep 4 21 (by kernel_rfl)
              have e23 : ev (.tmp 23) = (.int .i64 N) := hev.dep 6 23 (by kernel_rfl)
              exact leavesR_value (u := .bool false) (by first | (go_simp; done) | (go_simp; exact rfl)) rfl
            · exact absurd (show i + 8 < 8 from (Array.getElem?_eq_some_iff.1 hi).1) (by omega)
          have ⟨hS1, hS2, hS3, hSB⟩ := hSE
          have q0 : gR 17 = (.slice (some ad) Ls.length cL) := hq 0 17 (by decide) (by kernel_rfl)
          have q1 : gR 18 = (.int .i64 (i : Nat)) := hq 1 18 (by decide) (by kernel_rfl)
          have q2 : gR 19 = (.pointer (some (ad.add i))) := hq 2 19 (by decide) (by kernel_rfl)
          have q3 : gR 20 = (.slice ps n cs) := hq 3 20 (by decide) (by kernel_rfl)
          have q4 : gR 21 = (.int .i64 (n : Nat)) := hq 4 21 (by decide) (by kernel_rfl)
          have q5 : gR 22 = (.pointer (some ⟨w.heap.size, 0, none⟩)) := hq 5 22 (by decide) (by kernel_rfl)
          have q6 : gR 23 = (.int .i64 N) := hq 6 23 (by decide) (by kernel_rfl)
          have q7 : gR 24 = (.bool false) := hq 7 24 (by decide) (by kernel_rfl)
          refine ⟨fun _ => ?_, fun o ho => by simp at ho⟩
          simp only [putL, List.map_cons, List.map_nil, q0, q1, q2, q3, q4, q5, q6, q7, Act.put, pu1, pu2, pu3]
          clear hq hSE q0 q1 q2 q3 q4 q5 q6 q7
          clear hS1 hS2 hSB huE
          go_wp2_with fail
          go_roundg (Ls.length - (i + 1))
          case measure => omega
          case rel => exact ⟨i + 1, hlt, Nat.le_refl _, rfl, fun j hj => by
            rcases Nat.lt_succ_iff_lt_or_eq.1 hj with h | h
            · exact HZ.out j h
            · rw [h, HN.out]; exact HNe.out, hu.trans hS3⟩
        · have d1 : ((n : Int) != N) = true := by simpa using hne
          have HC2 : Hid (C = 23) := hid (by rw [HC.out]; exact if_neg fun h => hne (by have := h i hlt; rw [HN.out] at this; exact this))
          clear hne
          go_wp2_with fail
          refine wp_region_sp (n := 58) 8 [17, 18, 19, 20, 21, 22, 23, 24] [SP.is (.slice (some ad) Ls.length cL), SP.is (.int .i64 (i : Nat)), SP.is (.pointer (some (ad.add i))), SP.is (.slice ps n cs), SP.is (.int .i64 (n : Nat)), SP.is (.pointer (some ⟨w.heap.size, 0, none⟩)), SP.is (.int .i64 N), SP.is (.bool true)] (fun wq => wq.cell? (ad.add i) = some (.slice ps n cs) ∧ wq.cell? ⟨w.heap.size, 0, none⟩ = some (.int .i64 N) ∧ Up wr wq ∧ Below w.heap.size w wq) (by kernel_rfl) (by rfl) (by kernel_rfl) (by kernel_rfl) (fun _ _ h hu => ⟨hu.cell (h.1), hu.cell (h.2.1), (h.2.2.1).trans hu, below_up (h.2.2.2) hu⟩) ⟨(by assumption), (by assumption), (by first | exact Up.refl _ | assumption), gUp⟩ (fun ev w9 hS9 i o hne hi hev => ?_) (fun gR wE hq hSE huE => ?_)
          · have ⟨hS1, hS2, hS3, hSB⟩ := hS9
            have hcC := hev.const
            have hcF := hev.func
            have hcG := hev.global
            rcases i with _ | _ | _ | _ | _ | _ | _ | _ | i
            · obtain rfl := Option.some.inj (show some _ = some o from hi)
              have e1 := hev.other 1 (by kernel_rfl)
              simp [Act.eval] at e1
              exact leavesR_value (u := .slice (some ad) Ls.length cL) (by first | (go_simp; done) | (go_simp; exact rfl)) rfl
            · obtain rfl := Option.some.inj (show some _ = some o from hi)
              have e5 := hev.other 5 (by kernel_rfl)
              simp [Act.eval] at e5
              exact leavesR_value (u := .int .i64 (i : Nat)) (by first | (go_simp; done) | (go_simp; exact rfl)) rfl
            · obtain rfl := Option.some.inj (show some _ = some o from hi)
              have e17 : ev (.tmp 17) = (.slice (some ad) Ls.length cL) := hev.dep 0 17 (by kernel_rfl)
              have e18 : ev (.tmp 18) = (.int .i64 (i : Nat)) := hev.dep 1 18 (by kernel_rfl)
              exact leavesR_value (u := .pointer (some (ad.add i))) (by first | (go_simp; done) | (go_simp; exact rfl)) rfl
            · obtain rfl := Option.some.inj (show some _ = some o from hi)
              have e19 : ev (.tmp 19) = (.pointer (some (ad.add i))) := hev.dep 2 19 (by kernel_rfl)
              exact leavesR_value (u := .slice ps n cs) (by go_simp) rfl
            · obtain rfl := Option.some.inj (show some _ = some o from hi)
              have e20 : ev (.tmp 20) = (.slice ps n cs) := hev.dep 3 20 (by kernel_rfl)
              exact leavesR_value (u := .int .i64 (n : Nat)) (by first | (go_simp; done) | (go_simp; exact rfl)) rfl
            · obtain rfl := Option.some.inj (show some _ = some o from hi)
              have e2 := hev.other 2 (by kernel_rfl)
              simp [Act.eval] at e2
              exact leavesR_value (u := .pointer (some ⟨w.heap.size, 0, none⟩)) (by first | (go_simp; done) | (go_simp; exact rfl)) rfl
            · obtain rfl := Option.some.inj (show some _ = some o from hi)
              have e22 : ev (.tmp 22) = (.pointer (some ⟨w.heap.size, 0, none⟩)) := hev.dep 5 22 (by kernel_rfl)
              exact leavesR_value (u := .int .i64 N) (by go_simp) rfl
            · obtain rfl := Option.some.inj (show some _ = some o from hi)
              have e21 : ev (.tmp 21) = (.int .i64 (n : Nat)) := hev.dep 4 21 (by kernel_rfl)
              have e23 : ev (.tmp 23) = (.int .i64 N) := hev.dep 6 23 (by kernel_rfl)
              exact leavesR_value (u := .bool true) (by first | (go_simp; done) | (go_simp; exact rfl)) rfl
            · exact absurd (show i + 8 < 8 from (Array.getElem?_eq_some_iff.1 hi).1) (by omega)
          have ⟨hS1, hS2, hS3, hSB⟩ := hSE
          have q0 : gR 17 = (.slice (some ad) Ls.length cL) := hq 0 17 (by decide) (by kernel_rfl)
          have q1 : gR 18 = (.int .i64 (i : Nat)) := hq 1 18 (by decide) (by kernel_rfl)
          have q2 : gR 19 = (.pointer (some (ad.add i))) := hq 2 19 (by decide) (by kernel_rfl)
          have q3 : gR 20 = (.slice ps n cs) := hq 3 20 (by decide) (by kernel_rfl)
          have q4 : gR 21 = (.int .i64 (n : Nat)) := hq 4 21 (by decide) (by kernel_rfl)
          have q5 : gR 22 = (.pointer (some ⟨w.heap.size, 0, none⟩)) := hq 5 22 (by decide) (by kernel_rfl)
          have q6 : gR 23 = (.int .i64 N) := hq 6 23 (by decide) (by kernel_rfl)
          have q7 : gR 24 = (.bool true) := hq 7 24 (by decide) (by kernel_rfl)
          refine ⟨fun _ => ?_, fun o ho => by simp at ho⟩
          simp only [putL, List.map_cons, List.map_nil, q0, q1, q2, q3, q4, q5, q6, q7, Act.put, pu1, pu2, pu3]
          clear hq hSE q0 q1 q2 q3 q4 q5 q6 q7
          clear hS1 hS2 hSB huE
          go_wp2_with fail
          go_ret
          exact ⟨by rw [HC2.out]; rfl, (hU.trans hu).trans hS3⟩
      · obtain rfl : i = Ls.length := by omega
        have HC2 : Hid (C = if ∀ i, i < Ls.length → (Ls.getD i []).all vfit = true then 0 else 21) := hid (by rw [HC.out]; exact if_pos HZ.out)
        go_wp2_with fail
        obtain ⟨wO, hwO⟩ : ∃ y, wr = y := ⟨_, rfl⟩
        rw [hwO] at hu hc0 ⊢
        clear hwO
        go_loopg [6] Ls.length (fun g ti wr => ∃ i : Nat, i ≤ Ls.length ∧ Ls.length - i ≤ g ∧ ti = .int .i64 (i : Nat) ∧ (∀ j, j < i → (Ls.getD j []).all vfit = true) ∧ wr = wO)
        case atStart => exact ⟨0, Nat.zero_le _, by omega, rfl, fun j hj => absurd hj (Nat.not_lt_zero _), rfl⟩
        case round =>
          clear hc0
          obtain ⟨i, hi, hig, rfl, hz, rfl⟩ := hrel
          have HY := hid hz
          clear hz
          by_cases hlt : i < Ls.length
          · obtain ⟨ad, s, rfl, hcx, hV⟩ := HE.out _ (hU.trans hu) i hlt
            have HV := hid hV
            obtain ⟨ps, cs, rfl, -, -⟩ := hV
            have e1 : IntKind.i64.wrap ((i : Int) + 1) = (i : Int) + 1 := IntWalk.i64_in _ (by omega)
            have hLi := HS.out i
            obtain ⟨x, hx⟩ : ∃ x, Ls.getD i [] = x := ⟨_, rfl⟩
            have HX := hid hx
            rw [hx] at hcx HV hLi
            clear hx
            go_wp2_with fail
            obtain ⟨wI, hwI⟩ : ∃ y, wr = y := ⟨_, rfl⟩
            rw [hwI] at hu hcx HV ⊢
            go_loopg [7] x.length (fun g tk wr => ∃ k : Nat, k ≤ x.length ∧ x.length - k ≤ g ∧ tk = .int .i64 (k : Nat) ∧ (∀ j, j < k → vfit (zth x j) = true) ∧ wr = wI)
            case atStart => exact ⟨0, Nat.zero_le _, by omega, rfl, fun j hj => absurd hj (Nat.not_lt_zero _), rfl⟩
            case round =>
              obtain ⟨k, hk, hkg, rfl, hy, rfl⟩ := hrel
              have HK := hid hy
              clear hy
              by_cases hkl : k < x.length
              · obtain ⟨q', cq', xq, _, hcq⟩ := HV.out
                injection xq with y1 y2 y3
                subst y1 y3
                obtain ⟨a2, rfl, hck⟩ := hcq k hkl
                have e2 : IntKind.i64.wrap ((k : Int) + 1) = (k : Int) + 1 := IntWalk.i64_in _ (by omega)
                clear hcq y2
                obtain ⟨z, hz⟩ : ∃ z, zth x k = z := ⟨_, rfl⟩
                rw [hz] at hck
                have HZz := hid hz
                clear hz
                cases hf : vfit z with
                | true =>
                  have Hf := hid hf
                  unfold vfit at hf
                  have hf := of_decide_eq_true hf
                  have d1 : decide ((72057594037927936 : Int) < z) = false := decide_eq_false (by omega)
                  have d2 : decide (z < (-72057594037927936 : Int)) = false := decide_eq_false (by omega)
                  clear hf
                  go_wp2_with fail
                  go_roundg (x.length - (k + 1))
                  case measure => omega
                  case rel => exact ⟨k + 1, hkl, Nat.le_refl _, rfl, fun j hj => by
                    rcases Nat.lt_succ_iff_lt_or_eq.1 hj with h | h
                    · exact HK.out j h
                    · rw [h, HZz.out]; exact Hf.out, rfl⟩
                | false =>
                  have HC3 : Hid (C = 21) := hid (by
                    rw [HC2.out]
                    refine if_neg fun h => ?_
                    have h1 := List.all_eq_true.1 (h i hlt) (zth x k) (by rw [HX.out, zth_get hkl]; exact List.getElem_mem _)
                    rw [HZz.out, hf] at h1
                    cases h1)
                  by_cases hb : (72057594037927936 : Int) < z
                  · have d1 : decide ((72057594037927936 : Int) < z) = true := decide_eq_true hb
                    clear hf hb
                    go_wp2_with fail
                    go_ret
                    exact ⟨by rw [HC3.out]; rfl, hU.trans hu⟩
                  · have d1 : decide ((72057594037927936 : Int) < z) = false := decide_eq_false hb
                    have d2 : decide (z < (-72057594037927936 : Int)) = true := decide_eq_true (by have := vfit_false_of hf; omega)
                    clear hf hb
                    go_wp2_with fail
                    go_ret
                    exact ⟨by rw [HC3.out]; rfl, hU.trans hu⟩
              · obtain rfl : k = x.length := by omega
                have hall : x.all vfit = true := List.all_eq_true.2 fun y hy => by
                  obtain ⟨j, hj, rfl⟩ := List.mem_iff_getElem.1 hy
                  have := HK.out j hj
                  rw [zth_get hj] at this
                  exact this
                have HA := hid hall
                clear hall
                go_wp2_with fail
                go_roundg (Ls.length - (i + 1))
                case measure => omega
                case rel => exact ⟨i + 1, hlt, Nat.le_refl _, rfl, fun j hj => by
                  rcases Nat.lt_succ_iff_lt_or_eq.1 hj with h | h
                  · exact HY.out j h
                  · rw [h, HX.out]; exact HA.out, hwI.symm⟩
          · obtain rfl : i = Ls.length := by omega
            have HC3 : Hid (C = 0) := hid (by rw [HC2.out]; exact if_pos HY.out)
            go_wp2_with fail
            go_ret
            exact ⟨by rw [HC3.out]; rfl, hU.trans hu⟩
end Go.Proofs.YtnpaodlhhcnbgaaGreatDoor
