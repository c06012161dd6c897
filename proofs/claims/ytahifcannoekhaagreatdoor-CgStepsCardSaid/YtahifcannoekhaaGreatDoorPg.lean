import Derived.Test.YtahifcannoekhaaGreatDoorPf
import Derived.Deep.DeepCutAuto
import Derived.Deep.CutRange
import Derived.Deep.CutBlock
namespace Go.Proofs.YtahifcannoekhaaGreatDoor
open Go Go.RowKit
set_option maxRecDepth 100000
theorem undRbs : Tryz.prog.underlying 113 = some (.slice 61) := by kernel_rfl
theorem infoRbs : (Tryz.prog.info? 61).map (fun i => (i.zero, i.size, i.bytes)) = some (some (.slice none 0 0), 1, 24) := by kernel_rfl
def RowB (w : World) (g : Nat) (l : List Int) : Prop := ∃ C, Blk w g 66 C /\ l.length * 2 <= C.size /\ ∀ j, j < l.length -> BigAt w (fun k => C[k]?) j (zth l j)
theorem RowB.up {w w' : World} (hu : Up w w') {g : Nat} {l : List Int} (h : RowB w g l) : RowB w' g l := by
 obtain ⟨C, h1, h2, h3⟩ := h
 exact ⟨C, h1.up hu, h2, fun j hj => (h3 j hj).up hu⟩
theorem RowB.lt {w : World} {g : Nat} {l : List Int} (h : RowB w g l) : g < w.heap.size := by
 obtain ⟨C, h1, _⟩ := h
 exact h1.lt
theorem Big.grownR {w w' : World} {row : Option Nat} {v : Value} {z : Int} (h : Big w v z) (hg : w.grownBy w' row) (hr : ∀ k, row = some k -> ∃ C, Blk w k 61 C) : Big w' v z := by
 obtain ⟨a, c, h1, a2, c2, h2, h3, h4⟩ := h
 refine ⟨a, c, h1, a2, c2, h2, h3, fun h0 => ?_⟩
 obtain ⟨b, E, h5, h6, h7⟩ := h4 h0
 refine ⟨b, E, h5, ?_, h7⟩
 unfold Blk
 rw [hg.block b h6.lt ?_]
 ·exact h6
 ·intro e
  obtain ⟨C, hC⟩ := hr b e.symm
  unfold Blk at hC h6
  rw [hC] at h6
  simp at h6
theorem RowB.grown {w w' : World} {row : Option Nat} {g : Nat} {l : List Int} (h : RowB w g l) (hg : w.grownBy w' row) (hr : ∀ k, row = some k -> ∃ C, Blk w k 61 C) : RowB w' g l := by
 obtain ⟨C, h1, h2, h3⟩ := h
 refine ⟨C, ?_, h2, fun j hj => ?_⟩
 ·unfold Blk
  rw [hg.block g h1.lt ?_]
  ·exact h1
  ·intro e
   obtain ⟨D, hD⟩ := hr g e.symm
   unfold Blk at hD h1
   rw [hD] at h1
   simp at h1
 ·obtain ⟨b, a, n, c, h4, h5, h6⟩ := h3 j hj
  exact ⟨b, a, n, c, h4, h5, h6.grownR hg hr⟩
theorem OwnB.rowB {w : World} {base g n c : Nat} {l : List Int} (h : OwnB w base (.slice (some ⟨g, 0, none⟩) n c) l) (h0 : 0 < l.length) : RowB w g l /\ base <= g := by
 obtain ⟨g', cap, C, hv, hb, hB, hc, _, hs, hE⟩ := h.open h0
 injection hv with e1
 injection e1 with e1
 injection e1 with e1
 subst e1
 exact ⟨⟨C, hB, by omega, hE⟩, hb⟩
def OwnM (w : World) (base : Nat) (v : Value) (n m : Nat) (G : Nat -> Nat) (V : Nat -> Nat -> Int) : Prop :=
 ∃ xs : List Value, w.ownsRow base 61 1 v n xs /\ (∀ i, i < n -> ∃ c, xs[i]? = some (.slice (some ⟨G i, 0, none⟩) m c)) /\ (∀ i, i < n -> base <= G i /\ RowB w (G i) (mk m (V i))) /\ ∀ i j, i < n -> j < n -> G i = G j -> i = j
theorem OwnM.up {w w' : World} (hu : Up w w') {base n m : Nat} {v : Value} {G : Nat -> Nat} {V : Nat -> Nat -> Int} (h : OwnM w base v n m G V) : OwnM w' base v n m G V := by
 obtain ⟨xs, h1, h2, h3, h4⟩ := h
 exact ⟨xs, World.ownsRow.up h1 hu, h2, fun i hi => ⟨(h3 i hi).1, (h3 i hi).2.up hu⟩, h4⟩
theorem OwnM.nil (w : World) (base m : Nat) (G : Nat -> Nat) (V : Nat -> Nat -> Int) : OwnM w base (.slice none 0 0) 0 m G V :=
 ⟨[], World.ownsRow_nil _ _ _ _, fun _ hi => absurd hi (Nat.not_lt_zero _), fun _ hi => absurd hi (Nat.not_lt_zero _), fun _ _ hi => absurd hi (Nat.not_lt_zero _)⟩
theorem OwnM.congr {w : World} {base n m : Nat} {v : Value} {G : Nat -> Nat} {V K : Nat -> Nat -> Int} (h : OwnM w base v n m G V) (hVK : ∀ i j, i < n -> j < m -> V i j = K i j) : OwnM w base v n m G K := by
 obtain ⟨xs, h1, h2, h3, h4⟩ := h
 refine ⟨xs, h1, h2, fun i hi => ?_, h4⟩
 have e : mk m (V i) = mk m (K i) := zth_ext (by rw [mk_len, mk_len]) fun j hj => by rw [mk_len] at hj; rw [mk_at hj, mk_at hj, hVK i j hi hj]
 rw [<- e]
 exact h3 i hi
theorem OwnM.open {w : World} {base n m : Nat} {v : Value} {G : Nat -> Nat} {V : Nat -> Nat -> Int} (h : OwnM w base v n m G V) (h0 : 0 < n) :
   ∃ g cap C, v = .slice (some ⟨g, 0, none⟩) n cap /\ base <= g /\ n <= cap /\ Blk w g 61 C /\ ∀ i, i < n -> ∃ c, C[i]? = some (.slice (some ⟨G i, 0, none⟩) m c) := by
 obtain ⟨xs, ⟨_, h1 | ⟨g, cap, cur, hv, hb, hB, hc, _, _, ht⟩⟩, h2, _⟩ := h
 ·omega
 ·refine ⟨g, cap, cur, hv, hb, hc, hB, fun i hi => ?_⟩
  obtain ⟨c, h3⟩ := h2 i hi
  rw [<- ht, List.getElem?_take_of_lt (by omega), Array.getElem?_toList] at h3
  exact ⟨c, h3⟩
theorem OwnM.slice {w : World} {base n m : Nat} {v : Value} {G : Nat -> Nat} {V : Nat -> Nat -> Int} (h : OwnM w base v n m G V) : ∃ p c, v = .slice p n c := by
 obtain ⟨xs, ⟨_, ⟨rfl, h1⟩ | ⟨g, cap, cur, hv, _⟩⟩, _⟩ := h
 ·exact ⟨none, 0, by rw [h1]⟩
 ·exact ⟨_, cap, hv⟩
theorem OwnM.entry {w : World} {base n m : Nat} {v : Value} {G : Nat -> Nat} {V : Nat -> Nat -> Int} (h : OwnM w base v n m G V) {i j : Nat} (hi : i < n) (hj : j < m) :
   ∃ C b a k c, Blk w (G i) 66 C /\ m * 2 <= C.size /\ C[j * 2]? = some (.bool b) /\ C[j * 2 + 1]? = some (.slice a k c) /\ Big w (.agg #[.bool b, .slice a k c]) (V i j) := by
 obtain ⟨xs, _, _, h3, _⟩ := h
 obtain ⟨_, C, h4, h5, h6⟩ := h3 i hi
 rw [mk_len] at h5 h6
 obtain ⟨b, a, k, c, h7, h8, h9⟩ := h6 j hj
 rw [mk_at hj] at h9
 exact ⟨C, b, a, k, c, h4, h5, h7, h8, h9⟩
def upd2 (V : Nat -> Nat -> Int) (a b : Nat) (z : Int) : Nat -> Nat -> Int := fun i j => if i = a /\ j = b then z else V i j
theorem RowB.other {w : World} {g p : Nat} {C : Array Value} {l : List Int} (h : RowB w g l) (hC : Blk w p 66 C) (D : Array Value) (hne : g ≠ p) : RowB (w.setRow p D) g l := by
 obtain ⟨E, h1, h2, h3⟩ := h
 refine ⟨E, h1.row_other D hne, h2, fun j hj => ?_⟩
 obtain ⟨b, a, n, c, h4, h5, h6⟩ := h3 j hj
 exact ⟨b, a, n, c, h4, h5, h6.setRow hC⟩
theorem OwnM.set {w : World} {base n m : Nat} {v : Value} {G : Nat -> Nat} {V : Nat -> Nat -> Int} (h : OwnM w base v n m G V) {i j : Nat} (hi : i < n) (hj : j < m) {C : Array Value} (hC : Blk w (G i) 66 C)
   {b : Bool} {p : Option Addr} {k c : Nat} {z : Int} (hz : Big w (.agg #[.bool b, .slice p k c]) z) :
   OwnM (w.setRow (G i) (splB C (j * 2) [.bool b, .slice p k c])) base v n m G (upd2 V i j z) /\ j * 2 + 2 <= C.size := by
 obtain ⟨xs, ⟨h0, h1⟩, h2, h3, h4⟩ := h
 obtain ⟨_, C', h5, h6, h7⟩ := h3 i hi
 have hCC : C' = C := by
  unfold Blk at hC h5
  rw [hC] at h5
  simp at h5
  exact h5.symm
 subst hCC
 rw [mk_len] at h6 h7
 have hl : j * 2 + 2 <= C'.size := by omega
 refine ⟨⟨xs, ⟨h0, ?_⟩, h2, fun i' hi' => ⟨(h3 i' hi').1, ?_⟩, h4⟩, hl⟩
 ·rcases h1 with h1 | ⟨g, cap, cur, hv, hb, hB, hr⟩
  ·exact .inl h1
  ·refine .inr ⟨g, cap, cur, hv, hb, Blk.row_other (w := w) hB _ fun e => ?_, hr⟩
   subst e
   unfold Blk at hC
   rw [hC] at hB
   simp at hB
 ·by_cases e : i' = i
  ·subst e
   refine ⟨splB C' (j * 2) [.bool b, .slice p k c], hC.setRow _, by rw [mk_len, splB_size hl]; exact h6, fun q hq => ?_⟩
   rw [mk_len] at hq
   rw [mk_at hq]
   by_cases eq : q = j
   ·subst eq
    refine ⟨b, p, k, c, by dsimp only; rw [splB_get hl, if_pos rfl], by dsimp only; rw [splB_get hl, if_neg (by omega), if_pos rfl], ?_⟩
    unfold upd2
    rw [if_pos ⟨rfl, rfl⟩]
    exact hz.setRow hC
   ·obtain ⟨b', a', n', c', e1, e2, e3⟩ := h7 q hq
    rw [mk_at hq] at e3
    refine ⟨b', a', n', c', by dsimp only; rw [splB_get hl, if_neg (by omega), if_neg (by omega)]; exact e1, by dsimp only; rw [splB_get hl, if_neg (by omega), if_neg (by omega)]; exact e2, ?_⟩
    unfold upd2
    rw [if_neg (fun x => eq x.2)]
    exact e3.setRow hC
  ·have e2 : mk m (upd2 V i j z i') = mk m (V i') := zth_ext (by rw [mk_len, mk_len]) fun q hq => by
    rw [mk_len] at hq
    rw [mk_at hq, mk_at hq]
    unfold upd2
    rw [if_neg (fun x => e x.1)]
   rw [e2]
   exact (h3 i' hi').2.other hC _ (fun x => e (h4 i' i hi' hi x))
theorem appM {ops : Array Oper} {rest : List Oper} {Q : Exit -> Act -> World -> Prop} {a : Act} {w : World} {d : Option Tmp} {s u : Operand} {ty : TypeId} {pos : String} {af : Array Edge} {base b g c r n m cr : Nat} {v : Value} {G : Nat -> Nat} {V : Nat -> Nat -> Int}
   (hs : a.eval s = v) (hu : a.eval u = .slice (some ⟨g, 0, none⟩) 1 c) (hown : OwnM w base v n m G V) (hV : w.cell? ⟨g, 0, none⟩ = some (.slice (some ⟨r, 0, none⟩) m cr)) (hx : RowB w r (mk m (V n))) (hG : ∀ i, i < n -> G i < b) (hr : b <= r) (hbr : base <= b) (hbase : base <= w.heap.size) (hl : n < 1000000)
   (h : ∀ v' w', OwnM w' base v' (n + 1) m (fun i => if i = n then r else G i) V -> Below base w w' -> (∀ i, i < n + 1 -> (if i = n then r else G i) < w'.heap.size) -> wpList Tryz.prog ops Q rest (a.put d v') w') :
   wpList Tryz.prog ops Q ({ dst := d, op := .call { callee := .builtin .append, args := #[s, u], argTypes := #[113, 113] }, type := ty, pos := pos, after := af, guard := none } :: rest) a w := by
 obtain ⟨i0, hi0, he⟩ := Option.map_eq_some_iff.1 infoRbs
 simp only [Prod.mk.injEq] at he
 obtain ⟨xs, hxs, hE, hRw, hInj⟩ := hown
 have hlt := World.ownsRow.lt hxs
 have hrow : ∀ k, v.ownBlock = some k -> ∃ C, Blk w k 61 C := by
  intro k hk
  obtain ⟨_, ⟨rfl, _⟩ | ⟨g', cap, cur, rfl, _, hB, _⟩⟩ := hxs
  ·simp [Value.ownBlock] at hk
  ·simp [Value.ownBlock] at hk; subst hk; exact ⟨cur, hB⟩
 have hxl : xs.length = n := by have := hxs.1; omega
 refine wpList_append_own w rfl s u 113 rfl base 61 i0 _ 1 24 undRbs hi0 he.1 he.2.1 he.2.2 rfl (by decide) v n xs hs hxs ⟨g, 0, none⟩ 1 c [.slice (some ⟨r, 0, none⟩) m cr] hu rfl (fun j y hy => by
  rcases j with _ | j
  ·simp at hy; subst hy; rw [Addr.add_mid]; exact hV
  ·simp at hy) (by simp [Value.oneCell']) (by unfold maxLen; omega) (by omega) hbase ?_
 intro v' w' h1 h2 _
 refine h v' w' ⟨xs ++ [.slice (some ⟨r, 0, none⟩) m cr], h1, fun i hi => ?_, fun i hi => ?_, fun i j hi hj e => ?_⟩ ⟨h2.os, h2.tape, h2.output, h2.size, fun k hk => h2.block k (by omega) fun e => ?_⟩ (fun i hi => ?_)
 ·by_cases e : i < n
  ·obtain ⟨c', h3⟩ := hE i e
   refine ⟨c', ?_⟩
   dsimp only
   rw [List.getElem?_append_left (by omega), if_neg (by omega)]
   exact h3
  ·obtain rfl : i = n := by omega
   exact ⟨cr, by dsimp only; rw [List.getElem?_append_right (by omega), hxl, Nat.sub_self, if_pos rfl]; rfl⟩
 ·by_cases e : i < n
  ·dsimp only
   rw [if_neg (by omega)]
   exact ⟨(hRw i e).1, (hRw i e).2.grown h2 hrow⟩
  ·obtain rfl : i = n := by omega
   dsimp only
   rw [if_pos rfl]
   exact ⟨by omega, hx.grown h2 hrow⟩
 ·by_cases e1 : i = n <;> by_cases e2 : j = n
  ·omega
  ·dsimp only at e
   rw [if_pos e1, if_neg e2] at e
   have := hG j (by omega); omega
  ·dsimp only at e
   rw [if_neg e1, if_pos e2] at e
   have := hG i (by omega); omega
  ·dsimp only at e
   rw [if_neg e1, if_neg e2] at e
   exact hInj i j (by omega) (by omega) e
 ·have := hlt k e.symm
  omega
 ·have hsz := h2.size
  by_cases e : i = n
  ·rw [if_pos e]; have := hx.lt; omega
  ·rw [if_neg e]; have := (hRw i (by omega)).2.lt; omega
theorem OwnB.mono {w : World} {b b' : Nat} {v : Value} {l : List Int} (h : OwnB w b v l) (hb : b' <= b) : OwnB w b' v l := by
 obtain ⟨xs, ⟨h0, h1⟩, h2⟩ := h
 refine ⟨xs, ⟨h0, ?_⟩, h2⟩
 rcases h1 with h1 | ⟨g, cap, cur, hv, hg, hr⟩
 ·exact .inl h1
 ·exact .inr ⟨g, cap, cur, hv, by omega, hr⟩
theorem BigAt.grownR {w w' : World} {row : Option Nat} {get : Nat -> Option Value} {i : Nat} {z : Int} (h : BigAt w get i z) (hg : w.grownBy w' row) (hr : ∀ k, row = some k -> ∃ C, Blk w k 61 C) : BigAt w' get i z := by
 obtain ⟨b, a, n, c, h1, h2, h3⟩ := h
 exact ⟨b, a, n, c, h1, h2, h3.grownR hg hr⟩
theorem OwnB.grownR {w w' : World} {row : Option Nat} {b : Nat} {v : Value} {l : List Int} (h : OwnB w b v l) (hg : w.grownBy w' row) (hr : ∀ k, row = some k -> ∃ C, Blk w k 61 C) : OwnB w' b v l := by
 obtain ⟨xs, ⟨h0, h1⟩, h2⟩ := h
 refine ⟨xs, ⟨h0, ?_⟩, fun i hi => (h2 i hi).grownR hg hr⟩
 rcases h1 with h1 | ⟨g, cap, cur, hv, hb, hB, hq⟩
 ·exact .inl h1
 ·refine .inr ⟨g, cap, cur, hv, hb, ?_, hq⟩
  show Blk w' g _ _
  unfold Blk
  rw [hg.block g (show Blk w g _ _ from hB).lt ?_]
  ·exact hB
  ·intro e
   obtain ⟨C, hC⟩ := hr g e.symm
   unfold Blk at hC
   rw [hC] at hB
   simp at hB
def OwnG (w : World) (base : Nat) (v : Value) (n : Nat) (mf G : Nat -> Nat) (V : Nat -> Nat -> Int) : Prop :=
 ∃ (xs : List Value) (Cp : Nat -> Nat), w.ownsRow base 61 1 v n xs /\ (∀ i, i < n -> xs[i]? = some (.slice (some ⟨G i, 0, none⟩) (mf i) (Cp i))) /\ (∀ i, i < n -> base <= G i /\ 0 < mf i /\ OwnB w base (.slice (some ⟨G i, 0, none⟩) (mf i) (Cp i)) (mk (mf i) (V i))) /\ ∀ i j, i < n -> j < n -> G i = G j -> i = j
theorem OwnG.up {w w' : World} (hu : Up w w') {base n : Nat} {v : Value} {mf G : Nat -> Nat} {V : Nat -> Nat -> Int} (h : OwnG w base v n mf G V) : OwnG w' base v n mf G V := by
 obtain ⟨xs, Cp, h1, h2, h3, h4⟩ := h
 exact ⟨xs, Cp, World.ownsRow.up h1 hu, h2, fun i hi => ⟨(h3 i hi).1, (h3 i hi).2.1, (h3 i hi).2.2.up hu⟩, h4⟩
theorem OwnG.nil (w : World) (base : Nat) (mf G : Nat -> Nat) (V : Nat -> Nat -> Int) : OwnG w base (.slice none 0 0) 0 mf G V :=
 ⟨[], fun _ => 0, World.ownsRow_nil _ _ _ _, fun _ hi => absurd hi (Nat.not_lt_zero _), fun _ hi => absurd hi (Nat.not_lt_zero _), fun _ _ hi => absurd hi (Nat.not_lt_zero _)⟩
theorem OwnG.slice {w : World} {base n : Nat} {v : Value} {mf G : Nat -> Nat} {V : Nat -> Nat -> Int} (h : OwnG w base v n mf G V) : ∃ p c, v = .slice p n c := by
 obtain ⟨xs, Cp, ⟨_, ⟨rfl, h1⟩ | ⟨g, cap, cur, hv, _⟩⟩, _⟩ := h
 ·exact ⟨none, 0, by rw [h1]⟩
 ·exact ⟨_, cap, hv⟩
theorem OwnG.rowB {w : World} {base n : Nat} {v : Value} {mf G : Nat -> Nat} {V : Nat -> Nat -> Int} (h : OwnG w base v n mf G V) {i : Nat} (hi : i < n) : RowB w (G i) (mk (mf i) (V i)) := by
 obtain ⟨xs, Cp, _, _, h3, _⟩ := h
 obtain ⟨_, h0, h4⟩ := h3 i hi
 exact (h4.rowB (by rw [mk_len]; exact h0)).1
theorem OwnG.m {w : World} {base n m : Nat} {v : Value} {mf G : Nat -> Nat} {V : Nat -> Nat -> Int} (h : OwnG w base v n mf G V) (hm : ∀ i, i < n -> mf i = m) : OwnM w base v n m G V := by
 have hR := fun i hi => h.rowB (i := i) hi
 obtain ⟨xs, Cp, h1, h2, h3, h4⟩ := h
 exact ⟨xs, h1, fun i hi => ⟨Cp i, by rw [<- hm i hi]; exact h2 i hi⟩, fun i hi => ⟨(h3 i hi).1, by rw [<- hm i hi]; exact hR i hi⟩, h4⟩
theorem OwnG.congr {w : World} {base n : Nat} {v : Value} {mf mf' G : Nat -> Nat} {V K : Nat -> Nat -> Int} (h : OwnG w base v n mf G V) (hm : ∀ i, i < n -> mf i = mf' i) (hVK : ∀ i j, i < n -> j < mf i -> V i j = K i j) : OwnG w base v n mf' G K := by
 obtain ⟨xs, Cp, h1, h2, h3, h4⟩ := h
 refine ⟨xs, Cp, h1, fun i hi => by rw [<- hm i hi]; exact h2 i hi, fun i hi => ?_, h4⟩
 have e : mk (mf i) (V i) = mk (mf i) (K i) := zth_ext (by rw [mk_len, mk_len]) fun j hj => by rw [mk_len] at hj; rw [mk_at hj, mk_at hj, hVK i j hi hj]
 rw [<- hm i hi, <- e]
 exact h3 i hi
theorem appG {ops : Array Oper} {rest : List Oper} {Q : Exit -> Act -> World -> Prop} {a : Act} {w : World} {d : Option Tmp} {s u : Operand} {ty : TypeId} {pos : String} {af : Array Edge} {base b g c r n m cr : Nat} {v : Value} {G : Nat -> Nat} {V : Nat -> Nat -> Int}
   (hs : a.eval s = v) (hu : a.eval u = .slice (some ⟨g, 0, none⟩) 1 c) (hown : OwnG w base v n (fun _ => m) G V) (hV : w.cell? ⟨g, 0, none⟩ = some (.slice (some ⟨r, 0, none⟩) m cr)) (hx : OwnB w b (.slice (some ⟨r, 0, none⟩) m cr) (mk m (V n))) (h0 : 0 < m) (hG : ∀ i, i < n -> G i < b) (hbr : base <= b) (hbase : base <= w.heap.size) (hl : n < 1000000)
   (h : ∀ v' w', OwnG w' base v' (n + 1) (fun _ => m) (fun i => if i = n then r else G i) V -> Below base w w' -> (∀ i, i < n + 1 -> (if i = n then r else G i) < w'.heap.size) -> wpList Tryz.prog ops Q rest (a.put d v') w') :
   wpList Tryz.prog ops Q ({ dst := d, op := .call { callee := .builtin .append, args := #[s, u], argTypes := #[113, 113] }, type := ty, pos := pos, after := af, guard := none } :: rest) a w := by
 obtain ⟨i0, hi0, he⟩ := Option.map_eq_some_iff.1 infoRbs
 simp only [Prod.mk.injEq] at he
 have hRB := fun i hi => hown.rowB (i := i) hi
 obtain ⟨xs, Cp, hxs, hE, hRw, hInj⟩ := hown
 have hlt := World.ownsRow.lt hxs
 have hrow : ∀ k, v.ownBlock = some k -> ∃ C, Blk w k 61 C := by
  intro k hk
  obtain ⟨_, ⟨rfl, _⟩ | ⟨g', cap, cur, rfl, _, hB, _⟩⟩ := hxs
  ·simp [Value.ownBlock] at hk
  ·simp [Value.ownBlock] at hk; subst hk; exact ⟨cur, hB⟩
 have hxl : xs.length = n := by have := hxs.1; omega
 obtain ⟨hrb, hr⟩ := hx.rowB (by rw [mk_len]; exact h0)
 refine wpList_append_own w rfl s u 113 rfl base 61 i0 _ 1 24 undRbs hi0 he.1 he.2.1 he.2.2 rfl (by decide) v n xs hs hxs ⟨g, 0, none⟩ 1 c [.slice (some ⟨r, 0, none⟩) m cr] hu rfl (fun j y hy => by
  rcases j with _ | j
  ·simp at hy; subst hy; rw [Addr.add_mid]; exact hV
  ·simp at hy) (by simp [Value.oneCell']) (by unfold maxLen; omega) (by omega) hbase ?_
 intro v' w' h1 h2 _
 refine h v' w' ⟨xs ++ [.slice (some ⟨r, 0, none⟩) m cr], fun i => if i = n then cr else Cp i, h1, fun i hi => ?_, fun i hi => ?_, fun i j hi hj e => ?_⟩ ⟨h2.os, h2.tape, h2.output, h2.size, fun k hk => h2.block k (by omega) fun e => ?_⟩ (fun i hi => ?_)
 ·by_cases e : i < n
  ·dsimp only
   rw [List.getElem?_append_left (by omega), if_neg (by omega), if_neg (by omega)]
   exact hE i e
  ·obtain rfl : i = n := by omega
   dsimp only
   rw [List.getElem?_append_right (by omega), hxl, Nat.sub_self, if_pos rfl, if_pos rfl]
   rfl
 ·by_cases e : i < n
  ·dsimp only
   rw [if_neg (by omega), if_neg (by omega)]
   exact ⟨(hRw i e).1, h0, (hRw i e).2.2.grownR h2 hrow⟩
  ·obtain rfl : i = n := by omega
   dsimp only
   rw [if_pos rfl, if_pos rfl]
   exact ⟨by omega, h0, (hx.mono hbr).grownR h2 hrow⟩
 ·by_cases e1 : i = n <;> by_cases e2 : j = n
  ·omega
  ·dsimp only at e
   rw [if_pos e1, if_neg e2] at e
   have := hG j (by omega); omega
  ·dsimp only at e
   rw [if_neg e1, if_pos e2] at e
   have := hG i (by omega); omega
  ·dsimp only at e
   rw [if_neg e1, if_neg e2] at e
   exact hInj i j (by omega) (by omega) e
 ·have := hlt k e.symm
  omega
 ·have hsz := h2.size
  by_cases e : i = n
  ·rw [if_pos e]; have := hrb.lt; omega
  ·rw [if_neg e]; have := (hRB i (by omega)).lt; omega
theorem fill_oneB (b : Bool) (p : Option Addr) (m n : Nat) (z : Array Value) : Instr.fill (fun i => some (i * 2, 2)) ((Array.range (1 * 2)).map (z[· % z.size]!)) [(0, .agg #[.bool b, .slice p m n])] = some #[.bool b, .slice p m n] := by
 kernel_rfl
theorem bsB_P {ops : Array Oper} {rest : List Oper} {Q : Exit -> Act -> World -> Prop} {a : Act} {w : World} {d : Option Tmp} {s : Tmp} {ty : TypeId} {pos : String} {af : Array Edge} {b : Bool} {p : Option Addr} {m n : Nat} (hs : a.eval (.tmp s) = .agg #[.bool b, .slice p m n])
   (h : wpList Tryz.prog ops Q rest (a.put d (.slice (some ⟨w.heap.size, 0, none⟩) 1 1)) (w.alloc (.cells #[.bool b, .slice p m n] 66))) :
   wpList Tryz.prog ops Q ({ dst := d, op := .buildSlice 61 1 #[(0, .tmp s)], type := ty, pos := pos, after := af, guard := none } :: rest) a w := by
 obtain ⟨i0, hi0, he⟩ := Option.map_eq_some_iff.1 infoBs
 simp only [Prod.mk.injEq] at he
 refine wpList_buildSlice rfl 61 66 1 _ rfl #[.bool b, .slice p m n] i0 _ undBs hi0 he.1 (by rw [he.2.1]; decide) (by rw [he.2.1]; decide) ?_ h
 simp only [List.map_toArray, List.map_cons, List.map_nil, hs, he.2.1]
 exact fill_oneB _ _ _ _ _
theorem bigAt_range0 {w : World} {g : Nat} {b : Bool} {p : Option Addr} {m n : Nat} (hB : Blk w g 66 #[.bool b, .slice p m n]) : w.rangeAt g 0 [.bool b, .slice p m n] := by
 have h := bigAt_range hB (i := 0) (b := b) (p := p) (n := m) (c := n) rfl rfl
 rwa [Nat.zero_mul] at h
theorem run_ldBR {o : Oper} {ev : Operand -> Value} {x : Operand} {w : World} {g : Nat} {C : Array Value} (ho : o.op = .load 66 x) (hx : ev x = .pointer (some ⟨g, 0, none⟩)) (hC : Blk w g 66 C) (h2 : C.size = 2) : (execOp ev o).run Tryz.prog w = .ok (.value (.agg C)) w := by
 obtain ⟨fs, hu⟩ := undB
 unfold execOp
 simp only [ho, hx, Instr.loadAt, Instr.sureAddr, Sem.run_bind, Sem.run_pure, Result.andThen_ok, run_loadVar_row w g _ 66 C (0, 0) _ hC hu rfl (by rw [infoB, h2])]
theorem mk_succ (m : Nat) (f : Nat -> Int) : mk (m + 1) f = mk m f ++ [f m] := by unfold mk; rw [List.range_succ, List.map_append]; rfl
def RE (n : Nat) (l : List Int) (s k : Int) (i j : Nat) : Int := s * ent n l i j + if i = j then k else 0
def RowsPost (w : World) (n : Nat) (V : Nat -> Nat -> Int) (r : Ending) (w' : World) : Prop := ∃ z b G, r = .returned z /\ Up w w' /\ w.heap.size <= b /\ b <= w'.heap.size /\ OwnM w' b z n n G V
def RowsG (w : World) (n : Nat) (V : Nat -> Nat -> Int) (r : Ending) (w' : World) : Prop := ∃ z b G, r = .returned z /\ Up w w' /\ w.heap.size <= b /\ b <= w'.heap.size /\ OwnG w' b z n (fun _ => n) G V
set_option maxHeartbeats 16000000 in
theorem rowsG_any {v : Value} {n : Nat} {l : List Int} {w : World} (hm : Sm w v n l) (hR : rt n l = true) {s k : Int} (hs : I64 s) (hk : I64 k) :
   Calls Tryz.prog 57 #[v, .int .i64 s, .int .i64 k] w (RowsG w n (RE n l s k)) := by
 have n8 : n <= 8 := by have := (rt_spec hR).2.1; omega
 have HAT := hid (fun (i j : Nat) (hi : i < n) (hj : j < n) w' (hu : Up w w') => rat_ent (i : Int) (j : Int) (hm.up hu) hR (show rng (n : Int) i j = true from decide_eq_true (by omega)))
 have HEB := hid (fun (i j : Nat) (hi : i < n) (hj : j < n) => show I64 (ent n l i j) from by have := ent_fit hR hi hj; unfold I64; omega)
 have HOs := hid (fun w => of_big s hs.1 hs.2 w)
 have HOk := hid (fun w => of_big k hk.1 hk.2 w)
 have hsb := i64_bp hs
 have hkb := i64_bp hk
 have HSB := hid hsb
 have HKB := hid hkb
 obtain ⟨s0, rfl, ⟨p, cap, rfl, -, -⟩, -, -, -⟩ := hm
 obtain ⟨W0, hW0⟩ : ∃ W0, w.alloc (.cells #[.int .i64 (n : Int), .slice p l.length cap] 24) = W0 := ⟨_, rfl⟩
 have hB : Blk W0 w.heap.size 24 #[.int .i64 (n : Int), .slice p l.length cap] := by rw [<- hW0]; exact Blk.new _ _ rfl
 have hU : Up w W0 := by rw [<- hW0]; exact Up.alloc _ _
 have HRE := hid (fun i j => show RE n l s k i j = s * ent n l i j + (if i = j then k else 0) from rfl)
 have hc0 := hB.cell 0 rfl
 obtain ⟨V, hV⟩ : ∃ V, RE n l s k = V := ⟨_, rfl⟩
 rw [hV] at HRE ⊢
 clear hV hs hk hsb hkb hR
 unfold RowsG
 go_enter Tryz.func57, Tryz.ntmps57
 go_wp2_with fail
 obtain ⟨wS, hwS⟩ : ∃ y, W0 = y := ⟨_, rfl⟩
 rw [hwS] at hB hU hc0 ⊢
 clear hW0 hwS hc0
 go_loopg [7, 8] n (fun g tr ti wr => ∃ (i : Nat) (G : Nat -> Nat), i <= n /\ n - i <= g /\ ti = .int .i64 (i : Nat) /\ OwnG wr wS.heap.size tr i (fun _ => n) G V /\ (∀ q, q < i -> G q < wr.heap.size) /\ Up wS wr)
 case atStart => exact ⟨0, fun _ => 0, Nat.zero_le _, by omega, rfl, OwnG.nil _ _ _ _ _, fun _ hq => absurd hq (Nat.not_lt_zero _), Up.refl _⟩
 case round =>
  obtain ⟨i, G, hi, hig, rfl, hO, hGs, hu⟩ := hrel
  have HGs := hid hGs
  have hc0 := (hB.up hu).cell 0 rfl
  clear hGs
  by_cases hlt : i < n
  ·have e1 : IntKind.i64.wrap ((i : Int) + 1) = (i : Int) + 1 := IntWalk.i64_in _ (by omega)
   go_wp2_with fail
   obtain ⟨wO, hwO⟩ : ∃ y, wr = y := ⟨_, rfl⟩
   rw [hwO] at hO hu hc0 HGs ⊢
   clear hwO
   go_loopg [9, 10] n (fun g te tj wr => ∃ j : Nat, j <= n /\ n - j <= g /\ tj = .int .i64 (j : Nat) /\ OwnB wr wO.heap.size te (mk j (V i)) /\ Up wO wr)
   case atStart => exact ⟨0, Nat.zero_le _, by omega, rfl, OwnB.nil _ _, Up.refl _⟩
   case round =>
    clear hc0
    obtain ⟨j, hj, hjg, rfl, hE, huj⟩ := hrel
    have hBj := hB.up (hu.trans huj)
    have hc0 := hBj.cell 0 rfl
    by_cases hjlt : j < n
    ·have e2 : IntKind.i64.wrap ((j : Int) + 1) = (j : Int) + 1 := IntWalk.i64_in _ (by omega)
     have HA := hid (fun w' (hu' : Up wr w') => HAT.out i j hlt hjlt w' (hU.trans ((hu.trans huj).trans hu')))
     have hei := HEB.out i j hlt hjlt
     have hpb : (s * ent n l i j).natAbs < bp 2 := mul_bp1 HSB.out (i64_bp hei)
     have HO1 := hid (fun w => of_big (ent n l i j) hei.1 hei.2 w)
     have HM := hid (fun (va vb : Value) (w : World) (ha : Big w va s) (hb : Big w vb (ent n l i j)) => mul_big ha hb (nl_bp (k := 1) (by omega) HSB.out) (nl_bp (k := 1) (by omega) (i64_bp hei)))
     have HAd := hid (fun (va vb : Value) (w : World) (ha : Big w va (s * ent n l i j)) (hb : Big w vb k) => add_big ha hb (nl_bp (k := 2) (by omega) hpb) (nl_bp (k := 1) (by omega) HKB.out))
     have HV := hid (HRE.out i j)
     have HT9 := hid (mk_succ j (V i))
     have HTk : Hid ((mk j (V i)).length < 1000000) := hid (by rw [mk_len]; omega)
     have hszj := huj.size
     clear hei hpb
     obtain ⟨eij, heij⟩ : ∃ y, ent n l i j = y := ⟨_, rfl⟩
     rw [heij] at HA HO1 HM HAd HV
     clear heij
     obtain ⟨pr, hpr⟩ : ∃ y, s * eij = y := ⟨_, rfl⟩
     rw [hpr] at HM HAd HV
     clear hpr
     go_wp2_with fail
     refine wp_region_sp (n := 48) 9 [24, 25, 26, 27, 28, 29, 30, 31, 11] [SP.is (.int .i64 s), SP.of (fun v w1 => Big w1 v s) (fun _ _ _ h hu => h.up hu), SP.is (.agg #[.int .i64 (n : Nat), .slice p l.length cap]), SP.is (.int .i64 (i : Nat)), SP.is (.int .i64 (j : Nat)), SP.is (.int .i64 eij), SP.of (fun v w1 => Big w1 v eij) (fun _ _ _ h hu => h.up hu), SP.of (fun v w1 => Big w1 v pr) (fun _ _ _ h hu => h.up hu), SP.of (fun v w1 => ∃ b, v = .pointer (some ⟨b, 0, none⟩) /\ wr.heap.size <= b /\ Blk w1 b 66 #[.bool false, .slice none 0 0]) (fun _ _ _ h hu => h.imp fun _ k => ⟨k.1, k.2.1, k.2.2.up hu⟩), SP.any] (fun wq => Blk wq w.heap.size 24 #[.int .i64 (n : Int), .slice p l.length cap] /\ Up wr wq /\ Below w.heap.size w wq) (by kernel_rfl) (by rfl) (by kernel_rfl) (by kernel_rfl) (fun _ _ h hu => ⟨(h.1).up hu, (h.2.1).trans hu, below_up (h.2.2) hu⟩) ⟨(by first | assumption | exact gBlk), (by first | exact Up.refl _ | assumption), gUp⟩ (fun ev w9 hS9 i o hne hi hev => ?_) (fun gR wE hq hSE huE => ?_)
     ·have ⟨hS1, hS2, hSB⟩ := hS9
      have hcC := hev.const
      have hcF := hev.func
      have hcG := hev.global
      rcases i with _ | _ | _ | _ | _ | _ | _ | _ | _ | _ | i
      ·obtain rfl := oI hi
       have e1 := hev.other 1 (by kernel_rfl)
       simp [Act.eval] at e1
       exact lV (.int .i64 s)
      ·obtain rfl := oI hi
       have e24 : ev (.tmp 24) = (.int .i64 s) := hev.dep 0 24 (by kernel_rfl)
       refine leavesR_call ?_ (HOs.out _)
       go_simp
      ·obtain rfl := oI hi
       have e3 := hev.other 3 (by kernel_rfl)
       simp [Act.eval] at e3
       exact leavesR_value (run_ldME rfl (by go_simp) hS1 rfl) rfl
      ·obtain rfl := oI hi
       have e8 := hev.other 8 (by kernel_rfl)
       simp [Act.eval] at e8
       exact lV (.int .i64 (i : Nat))
      ·obtain rfl := oI hi
       have e10 := hev.other 10 (by kernel_rfl)
       simp [Act.eval] at e10
       exact lV (.int .i64 (j : Nat))
      ·obtain rfl := oI hi
       have e26 : ev (.tmp 26) = (.agg #[.int .i64 (n : Nat), .slice p l.length cap]) := hev.dep 2 26 (by kernel_rfl)
       have e27 : ev (.tmp 27) = (.int .i64 (i : Nat)) := hev.dep 3 27 (by kernel_rfl)
       have e28 : ev (.tmp 28) = (.int .i64 (j : Nat)) := hev.dep 4 28 (by kernel_rfl)
       refine leavesR_call ?_ ((HA.out _ hS2).mono fun _ _ h => ⟨h.2, _, h.1, rfl⟩)
       go_simp
      ·obtain rfl := oI hi
       have e29 : ev (.tmp 29) = (.int .i64 eij) := hev.dep 5 29 (by kernel_rfl)
       refine leavesR_call ?_ (HO1.out _)
       go_simp
      ·obtain rfl := oI hi
       have e25 : (fun v w1 => Big w1 v s) (ev (.tmp 25)) w9 := hev.dep 1 25 (by kernel_rfl)
       dsimp only at e25
       obtain ⟨v25, hv25⟩ : ∃ v, ev (.tmp 25) = v := ⟨_, rfl⟩
       rw [hv25] at e25
       have e30 : (fun v w1 => Big w1 v eij) (ev (.tmp 30)) w9 := hev.dep 6 30 (by kernel_rfl)
       dsimp only at e30
       obtain ⟨v30, hv30⟩ : ∃ v, ev (.tmp 30) = v := ⟨_, rfl⟩
       rw [hv30] at e30
       refine leavesR_call ?_ (HM.out _ _ _ e25 e30)
       go_simp
      ·obtain rfl := oI hi
       exact leavesR_up (u := .pointer (some ⟨w9.heap.size, 0, none⟩)) (w' := w9.alloc (.cells #[.bool false, .slice none 0 0] 66)) (by go_simp) (Up.alloc _ _) ⟨_, rfl, hS2.size, Blk.new _ _ rfl⟩
      ·exact absurd rfl hne
      ·exact absurd (show i + 10 < 10 from (Array.getElem?_eq_some_iff.1 hi).1) (by omega)
     have ⟨hS1, hS2, hSB⟩ := hSE
     have q0 : gR 24 = (.int .i64 s) := hq 0 24 (by decide) (by kernel_rfl)
     have q1 : (fun v w1 => Big w1 v s) (gR 25) wE := hq 1 25 (by decide) (by kernel_rfl)
     dsimp only at q1
     obtain ⟨v25, hv25⟩ : ∃ v, gR 25 = v := ⟨_, rfl⟩
     rw [hv25] at q1
     have q2 : gR 26 = (.agg #[.int .i64 (n : Nat), .slice p l.length cap]) := hq 2 26 (by decide) (by kernel_rfl)
     have q3 : gR 27 = (.int .i64 (i : Nat)) := hq 3 27 (by decide) (by kernel_rfl)
     have q4 : gR 28 = (.int .i64 (j : Nat)) := hq 4 28 (by decide) (by kernel_rfl)
     have q5 : gR 29 = (.int .i64 eij) := hq 5 29 (by decide) (by kernel_rfl)
     have q6 : (fun v w1 => Big w1 v eij) (gR 30) wE := hq 6 30 (by decide) (by kernel_rfl)
     dsimp only at q6
     obtain ⟨v30, hv30⟩ : ∃ v, gR 30 = v := ⟨_, rfl⟩
     rw [hv30] at q6
     have q7 : (fun v w1 => Big w1 v pr) (gR 31) wE := hq 7 31 (by decide) (by kernel_rfl)
     dsimp only at q7
     obtain ⟨v31, hv31⟩ : ∃ v, gR 31 = v := ⟨_, rfl⟩
     rw [hv31] at q7
     have q8 : (fun v w1 => ∃ b, v = .pointer (some ⟨b, 0, none⟩) /\ wr.heap.size <= b /\ Blk w1 b 66 #[.bool false, .slice none 0 0]) (gR 11) wE := hq 8 11 (by decide) (by kernel_rfl)
     dsimp only at q8
     obtain ⟨v11, hv11⟩ : ∃ v, gR 11 = v := ⟨_, rfl⟩
     rw [hv11] at q8
     refine ⟨fun h => absurd h (by decide), fun o ho => ?_⟩
     obtain rfl := oI ho
     simp only [putL, List.map_cons, List.map_nil, q0, hv25, q2, q3, q4, q5, hv30, hv31, hv11, Act.put, pu1, pu2, pu3]
     clear hq hSE q0 q2 q3 q4 q5
     obtain ⟨b7, rfl, hb7, hBz⟩ := q8
     obtain ⟨bb, ba, bn, bc, rfl⟩ := q7.shape
     refine wp_stB rfl rfl rfl rfl hBz rfl rfl (one2 _ _ _ _) ?_
     have gB := hBz.setRow #[.bool bb, .slice ba bn bc]
     have gG := big_set (D := #[.bool bb, .slice ba bn bc]) hBz q7
     have gU : Up wr _ := below_setRow hS2 hb7 #[.bool bb, .slice ba bn bc]
     obtain ⟨wK, hwK⟩ : ∃ wK, wE.setRow b7 #[.bool bb, .slice ba bn bc] = wK := ⟨_, rfl⟩
     rw [hwK] at gB gG gU ⊢
     clear hwK hBz q1 q6 q7 hS1 hS2 hSB huE hc0 hBj
     have gs := gU.size
     by_cases hij : i = j
     ·have HV2 : Hid (V i j = pr + k) := hid (by rw [HV.out, if_pos hij])
      subst hij
      go_wp2_with fail
      refine wp_region_sp (n := 48) 4 [35, 36, 37, 38] [SP.is (.agg #[.bool bb, .slice ba bn bc]), SP.is (.int .i64 k), SP.of (fun v w1 => Big w1 v k) (fun _ _ _ h hu => h.up hu), SP.of (fun v w1 => Big w1 v (pr + k)) (fun _ _ _ h hu => h.up hu), SP.any] (fun wq => Blk wq b7 66 #[.bool bb, .slice ba bn bc] /\ Up wK wq /\ Below w.heap.size w wq) (by kernel_rfl) (by rfl) (by kernel_rfl) (by kernel_rfl) (fun _ _ h hu => ⟨(h.1).up hu, (h.2.1).trans hu, below_up (h.2.2) hu⟩) ⟨(by first | assumption | exact gBlk), (by first | exact Up.refl _ | assumption), gUp⟩ (fun ev w9 hS9 i o hne hi hev => ?_) (fun gR wE hq hSE huE => ?_)
      ·have ⟨hS1, hS2, hSB⟩ := hS9
       have hcC := hev.const
       have hcF := hev.func
       have hcG := hev.global
       rcases i with _ | _ | _ | _ | _ | i
       ·obtain rfl := oI hi
        have e11 := hev.other 11 (by kernel_rfl)
        simp [Act.eval] at e11
        exact leavesR_value (run_ldBR rfl (by go_simp) hS1 rfl) rfl
       ·obtain rfl := oI hi
        have e2 := hev.other 2 (by kernel_rfl)
        simp [Act.eval] at e2
        exact lV (.int .i64 k)
       ·obtain rfl := oI hi
        have e36 : ev (.tmp 36) = (.int .i64 k) := hev.dep 1 36 (by kernel_rfl)
        refine leavesR_call ?_ (HOk.out _)
        go_simp
       ·obtain rfl := oI hi
        have e35 : ev (.tmp 35) = (.agg #[.bool bb, .slice ba bn bc]) := hev.dep 0 35 (by kernel_rfl)
        have e37 : (fun v w1 => Big w1 v k) (ev (.tmp 37)) w9 := hev.dep 2 37 (by kernel_rfl)
        dsimp only at e37
        obtain ⟨v37, hv37⟩ : ∃ v, ev (.tmp 37) = v := ⟨_, rfl⟩
        rw [hv37] at e37
        refine leavesR_call ?_ (HAd.out _ _ _ (e35 ▸ gG.up hS2) e37)
        go_simp
       ·exact absurd rfl hne
       ·exact absurd (show i + 5 < 5 from (Array.getElem?_eq_some_iff.1 hi).1) (by omega)
      have ⟨hS1, hS2, hSB⟩ := hSE
      have q0 : gR 35 = (.agg #[.bool bb, .slice ba bn bc]) := hq 0 35 (by decide) (by kernel_rfl)
      have q1 : gR 36 = (.int .i64 k) := hq 1 36 (by decide) (by kernel_rfl)
      have q2 : (fun v w1 => Big w1 v k) (gR 37) wE := hq 2 37 (by decide) (by kernel_rfl)
      dsimp only at q2
      obtain ⟨v37, hv37⟩ : ∃ v, gR 37 = v := ⟨_, rfl⟩
      rw [hv37] at q2
      have q3 : (fun v w1 => Big w1 v (pr + k)) (gR 38) wE := hq 3 38 (by decide) (by kernel_rfl)
      dsimp only at q3
      obtain ⟨v38, hv38⟩ : ∃ v, gR 38 = v := ⟨_, rfl⟩
      rw [hv38] at q3
      refine ⟨fun h => absurd h (by decide), fun o ho => ?_⟩
      obtain rfl := oI ho
      simp only [putL, List.map_cons, List.map_nil, q0, q1, hv37, hv38, Act.put, pu1, pu2, pu3]
      clear hq hSE q0 q1
      obtain ⟨cb, ca, cn, cc, rfl⟩ := q3.shape
      refine wp_stB rfl rfl rfl rfl hS1 rfl rfl (one2 _ _ _ _) ?_
      have kB := hS1.setRow #[.bool cb, .slice ca cn cc]
      have kG := big_set (D := #[.bool cb, .slice ca cn cc]) hS1 q3
      have kU : Up wr _ := below_setRow (gU.trans hS2) hb7 #[.bool cb, .slice ca cn cc]
      obtain ⟨wL, hwL⟩ : ∃ wL, wE.setRow b7 #[.bool cb, .slice ca cn cc] = wL := ⟨_, rfl⟩
      rw [hwL] at kB kG kU ⊢
      clear hwL q2 q3 hS1 hS2 hSB huE gB gG
      have ks := kU.size
      go_wp2_with (first
       | ((with_reducible apply ldB_P); exact rfl; exact rfl; exact kB; exact rfl)
       | ((with_reducible apply bsB_P); exact rfl)
       | ((with_reducible apply appB (l := mk i (V i)) (z := pr + k)); exact rfl; exact rfl; exact OwnB.up (kU.trans (Up.alloc _ _)) hE; exact bigAt_range0 (Blk.new _ _ rfl); exact kG.up (Up.alloc _ _); (focus (simp; omega)); exact HTk.out; rintro v6 w6 hO6 - hb6))
      go_roundg (n - (i + 1))
      case measure => omega
      case rel => exact ⟨i + 1, hjlt, Nat.le_refl _, rfl, by rw [HT9.out, HV2.out]; exact hO6, Below.trans (huj.trans (kU.trans (Up.alloc _ _))) hb6⟩
     ·have HV2 : Hid (V i j = pr) := hid (by rw [HV.out, if_neg hij, Int.add_zero])
      go_wp2_with (first
       | ((with_reducible apply ldB_P); exact rfl; exact rfl; exact gB; exact rfl)
       | ((with_reducible apply bsB_P); exact rfl)
       | ((with_reducible apply appB (l := mk j (V i)) (z := pr)); exact rfl; exact rfl; exact OwnB.up (gU.trans (Up.alloc _ _)) hE; exact bigAt_range0 (Blk.new _ _ rfl); exact gG.up (Up.alloc _ _); (focus (simp; omega)); exact HTk.out; rintro v6 w6 hO6 - hb6))
      go_roundg (n - (j + 1))
      case measure => omega
      case rel => exact ⟨j + 1, hjlt, Nat.le_refl _, rfl, by rw [HT9.out, HV2.out]; exact hO6, Below.trans (huj.trans (gU.trans (Up.alloc _ _))) hb6⟩
    ·obtain rfl : j = n := by omega
     obtain ⟨pe, ce, rfl⟩ := hE.slice
     obtain ⟨ge, cge, Ce, hve, hbe, -⟩ := hE.open (by rw [mk_len]; omega)
     rw [mk_len] at hve
     injection hve with x1 x2 x3
     subst x1 x3
     have HEo := hid (show OwnB wr wO.heap.size (.slice (some ⟨ge, 0, none⟩) j ce) (mk j (V i)) from by have h := hE; rw [mk_len] at h; exact h)
     have hszj := huj.size
     have hszu := hu.size
     rw [mk_len]
     go_wp2_with (first
      | ((with_reducible apply appG (b := wO.heap.size) (r := ge) (m := j) (n := i) (V := V) (G := G)); exact rfl; exact rfl; exact OwnG.up (huj.trans (Up.alloc _ _)) hO; exact (Blk.new _ _ rfl).cell 0 rfl; exact OwnB.up (Up.alloc _ _) HEo.out; (focus omega); exact HGs.out; exact hszu; (focus (simp; omega)); (focus omega); rintro v6 w6 hO6 hb6 hG6))
     go_roundg (j - (i + 1))
     case measure => omega
     case rel => exact ⟨i + 1, _, hlt, Nat.le_refl _, rfl, hO6, hG6, Below.trans ((hu.trans huj).trans (Up.alloc _ _)) hb6⟩
  ·obtain rfl : i = n := by omega
   go_wp2_with fail
   go_ret
   exact ⟨_, _, G, rfl, hU.trans hu, hU.size, hu.size, hO⟩
theorem rows_any {v : Value} {n : Nat} {l : List Int} {w : World} (hm : Sm w v n l) (hR : rt n l = true) {s k : Int} (hs : I64 s) (hk : I64 k) :
   Calls Tryz.prog 57 #[v, .int .i64 s, .int .i64 k] w (RowsPost w n (RE n l s k)) :=
 (rowsG_any hm hR hs hk).mono fun _ _ ⟨z, b, G, h1, h2, h3, h4, h5⟩ => ⟨z, b, G, h1, h2, h3, h4, h5.m fun _ _ => rfl⟩
theorem over_step {x Q y r b L X q r' : Nat} (h : x = Q * y + r * (b * 18446744073709551616) + (L + X * b)) (hq : y * q + r' = 18446744073709551616 * r + X) : x = (Q + q * b) * y + r' * b + L := by
 have h2 : (y * q + r') * b = (18446744073709551616 * r + X) * b := by rw [hq]
 have h3 : (Q + q * b) * y + r' * b = Q * y + (y * q + r') * b := by grind
 have h4 : (18446744073709551616 * r + X) * b = r * (b * 18446744073709551616) + X * b := by grind
 rw [h, h3, h2, h4]
 omega
set_option maxHeartbeats 2000000 in
theorem over_am {x y : Nat} {va vb : Value} {w : World} (ha : Am w va x) (hb : Am w vb y) (hx : nl x < 100000) (hy : nl y = 1) :
   Calls Tryz.prog 88 #[va, vb] w fun e w' => Up w w' /\ ∃ a n c b m d, e = .returned (.tuple #[.slice a n c, .slice b m d]) /\ Am w' (.slice a n c) (x / y) /\ Am w' (.slice b m d) (x % y) := by
 obtain ⟨a, ca, rfl, hca1, hca0⟩ := ha.open
 obtain ⟨b, cb, rfl, hcb1, hcb0⟩ := hb.open
 obtain ⟨hy64, hy0, hyl⟩ := nl_one hy
 have HC := hid (fun w' (h : Up w w') => cmp_am (ha.up h) (hb.up h) (by omega) (by omega))
 by_cases hlt : x < y
 ·have hA := hid ha
  have e1 : x / y = 0 := Nat.div_eq_of_lt hlt
  have e2 : x % y = x := Nat.mod_eq_of_lt hlt
  have d1 : decide (ordZ x y < 0) = true := by unfold ordZ; rw [if_pos hlt]; rfl
  rw [e1, e2]
  rw [hy] at HC hcb1 ⊢
  clear ha hb e1 e2 hca0 hcb0 hy
  go_enter Tryz.func88, Tryz.ntmps88
  go_wp2_with (first | (go_at_call 61; (with_reducible refine (HC.out _ gUp).mono ?_); rintro e wC ⟨rfl, huC⟩))
  go_ret2
  exact ⟨gUp, _, _, _, _, _, _, rfl, am_nil _, hA.out.up huC⟩
 ·have d1 : decide (ordZ x y < 0) = false := by
   unfold ordZ
   rw [if_neg hlt]
   split <;> simp
  obtain ⟨bb, rfl, hbb, hcb⟩ := hcb0 0 (by omega)
  rw [hyl] at hcb
  rw [hy] at HC hcb1 ⊢
  have hsx := sum_nl x
  have hn0 : 0 < nl x := nl_pos (by omega)
  have HSX := hid hsx
  have HXA := hid (nl_le (x := x) (k := nl x) (lt_bp_nl x))
  clear ha hb hsx hcb0 HXA hy
  generalize nl x = n at *
  go_enter Tryz.func88, Tryz.ntmps88
  go_wp2_with (first | (go_at_call 61; (with_reducible refine (HC.out _ gUp).mono ?_); rintro e wC ⟨rfl, huC⟩) | ((with_reducible apply mkP (n := n)); exact rfl; (first | rfl | omega); omega))
  have hsC := huC.size
  go_loopw [8, 9] (fun tr ti wr => ∃ (m r : Nat) (S : Nat -> Nat), m <= n /\ ti = .int .i64 ((m : Int) - 1) /\ tr = .int .u64 (r : Nat) /\ r < y /\ (∀ j, j < n -> S j < 18446744073709551616) /\ (∀ j, j < m -> S j = 0) /\ x = sumL S n * y + r * bp m + sumL (limb x) m /\
     Row wr wC.heap.size 100 n S /\ Below w.heap.size w wr)
   (fun _ ti _ => (intOf ti + 1).toNat)
  case atStart => exact ⟨n, 0, fun _ => 0, Nat.le_refl _, rfl, rfl, hy0, fun _ _ => by simp, fun _ _ => rfl, by rw [sumL_zeros, HSX.out]; omega, gRow, gUp⟩
  case round =>
   obtain ⟨m, r, S, hm, rfl, rfl, hr, hSb, hz, hsum, hS, hB⟩ := hrel
   have HSb := hid hSb
   have Hz := hid hz
   have Hsum := hid hsum
   clear hSb hz hsum
   by_cases hlt : 0 < m
   ·obtain ⟨k, rfl⟩ : ∃ k, m = k + 1 := ⟨m - 1, by omega⟩
    have e : (((k + 1 : Nat) : Int) - 1) = (k : Int) := by omega
    rw [e]
    clear e
    obtain ⟨ba, rfl, hba, hca⟩ := hca0 k (by omega)
    have hcx := hca _ hB
    have hcy := hcb _ hB
    have hlx := limb_lt x k
    have hkn : k < n := by omega
    obtain ⟨q, eq⟩ : ∃ q, q = (18446744073709551616 * r + limb x k) / y := ⟨_, rfl⟩
    obtain ⟨r', er⟩ : ∃ r', r' = (18446744073709551616 * r + limb x k) % y := ⟨_, rfl⟩
    have hD := div64_any r (limb x k) y hy64 hlx hr
    rw [<- eq, <- er] at hD
    have HD := hid hD
    have hq : q < 18446744073709551616 := by rw [eq]; exact short_q hr hlx
    have hr' : r' < y := by rw [er]; exact Nat.mod_lt _ hy0
    have HQR : Hid (y * q + r' = 18446744073709551616 * r + limb x k) := hid (by rw [eq, er]; exact Nat.div_add_mod _ _)
    clear eq er hD
    go_wp2
    refine opU (S := (fun wq => Row wq wC.heap.size 100 n S /\ wq.cell? ⟨ba, k, none⟩ = some (.int .u64 (limb x k : Nat)) /\ wq.cell? ⟨bb, 0, none⟩ = some (.int .u64 (y : Nat)) /\ Below w.heap.size w wq)) (req := (fun j => j != 15)) (fun _ _ h hu => ⟨(h.1).up hu, hu.cell (h.2.1), hu.cell (h.2.2.1), below_up (h.2.2.2) hu⟩) ⟨gRow, (by first | assumption | (apply Blk.cell; exact gBlk; exact rfl)), (by first | assumption | (apply Blk.cell; exact gBlk; exact rfl)), gUp⟩ (fun wS hSS hSu => ?_)
    have ⟨hS1, hS2, hS3, hSB⟩ := hSS
    clear hcx hcy hS hB
    refine tkP 0 (some 44) hSu ?_
    refine tkP 1 (some 45) hSu ?_
    refine tkP 2 (some 46) hSu ?_
    refine tkP 3 (some 47) hSu ?_
    refine tkP 4 (some 48) hSu ?_
    refine tkP 5 (some 49) hSu ?_
    refine tkT 6 (some 50) rfl hSu hSS ?_ (hy := fun w' hSw => by ((try dsimp only at hSw); (try obtain ⟨_, _, _, _⟩ := hSw); go_simp; (try exact rfl)))
    refine tkP 7 (some 51) hSu ?_
    refine tkP 8 (some 52) hSu ?_
    refine tkT 9 (some 53) rfl hSu hSS ?_ (hy := fun w' hSw => by ((try dsimp only at hSw); (try obtain ⟨_, _, _, _⟩ := hSw); go_simp; (try exact rfl)))
    refine tkC 10 (some 54) rfl hSu hSS ?_ (hy := fun w' hSw => (HD.out _))
    refine tkP 11 (some 43) hSu ?_
    refine tkP 12 (some 55) hSu ?_
    refine tkP 13 (some 56) hSu ?_
    refine tkP 14 (some 57) hSu ?_
    refine wpAnyU_one (i := 15) rfl (by kernel_rfl) (by rfl) fun w1 hw1 => ?_
    have hcW := (hS1.up hw1).cell k (by omega)
    have hfW := (hS1.up hw1).frozen k
    go_simp
    clear hcW hfW
    refine tkP 16 (some 8) hSu ?_
    refine wpAnyU_done (by kernel_rfl) (fun wF huE => ?_) _
    have gS := ((hS1.up hw1).set k q).up huE
    have gB := below_up ((below_up hSB hw1).setCell (p := ⟨wC.heap.size, k, none⟩) (show w.heap.size <= wC.heap.size by omega) (.int .u64 (q : Nat))) huE
    clear hS1 hS2 hS3 hSB hSS hw1 huE
    go_wp2
    go_roundw
    case rel =>
     refine ⟨k, r', upd S k q, by omega, by go_num, rfl, hr', upd_lt HSb.out hq, fun j hj => by rw [upd_other _ _ _ (by omega)]; exact Hz.out j (by omega), ?_, gS, gB⟩
     have h1 := sumL_upd S q (show k < n by omega)
     rw [Hz.out k (by omega), Nat.zero_mul, Nat.add_zero] at h1
     have h2 := Hsum.out
     rw [bp_succ, sumL_succ (limb x) k] at h2
     rw [h1]
     exact over_step h2 HQR.out
    case measure => simp [intOf] <;> omega
   ·obtain rfl : m = 0 := by omega
    have hfin := Hsum.out
    rw [bp_zero, sumL_zero, Nat.mul_one, Nat.add_zero] at hfin
    have e1 : x / y = sumL S n := by rw [hfin, Nat.mul_comm, Nat.mul_add_div hy0, Nat.div_eq_of_lt hr, Nat.add_zero]
    have e2 : x % y = r := by rw [hfin, Nat.mul_comm, Nat.mul_add_mod, Nat.mod_eq_of_lt hr]
    have ht := fun w' (h : Row w' wC.heap.size 100 n S) => trim_row wC.heap.size n n n S w' h (Nat.le_refl _) (Nat.le_refl _) (by omega)
    have hres := am_row (c := n) hS (Nat.le_refl _) (Nat.le_refl _) HSb.out
    rw [<- e1] at hres
    have hr64 : ∀ i, i < 1 -> (fun _ => r) i < 18446744073709551616 := fun _ _ => by show r < 18446744073709551616; omega
    have eR : sumL (fun _ => r) 1 = r := by rw [sumL_succ, sumL_zero, bp_zero]; omega
    have ht2 := fun w' b (h : Row w' b 100 1 (fun _ => r)) => trim_row b 1 1 1 (fun _ => r) w' h (Nat.le_refl _) (Nat.le_refl _) (by decide)
    have hres2 : ∀ w' b, Row w' b 100 1 (fun _ => r) -> Am w' (.slice (some ⟨b, 0, none⟩) (lenL (fun _ => r) 1) 1) (x % y) := fun w' b h => by
     have := am_row (c := 1) h (Nat.le_refl _) (Nat.le_refl _) hr64
     rw [eR] at this
     rw [e2]
     exact this
    have HT := hid ht
    have HT2 := hid ht2
    have HA := hid hres
    have HA2 := hid hres2
    clear ht hres hfin e1 e2 HSb Hsum Hz ht2 hres2 hr64 eR
    go_wp2_with (first | (go_at_call 49; (first | ((with_reducible refine (HT.out _ gRow).mono ?_); rintro e wT ⟨rfl, huT⟩) | ((with_reducible refine (HT2.out _ _ (row_one (by simp))).mono ?_); rintro e wV ⟨rfl, huV⟩))))
    go_ret2
    exact ⟨below_up (bl_alloc (below_up hB huT).size (below_up hB huT)) huV, _, _, _, _, _, _, rfl, ((HA.out.up huT).up (Up.alloc _ _)).up huV, (HA2.out _ _ (row_one rfl)).up huV⟩
theorem resBB {fn : Func} {p q : Tmp} (h : fn.results = #[.cell p 66, .cell q 66]) {tmps : Array Value} {w : World} {g k : Nat} {C D : Array Value} (hp : tmps.getD p undef = .pointer (some ⟨g, 0, none⟩)) (hq : tmps.getD q undef = .pointer (some ⟨k, 0, none⟩))
   (hC : Blk w g 66 C) (hD : Blk w k 66 D) (h2 : C.size = 2) (h3 : D.size = 2) : (results fn tmps).run Tryz.prog w = .ok (.tuple #[.agg C, .agg D]) w := by
 obtain ⟨fs, hu⟩ := undB
 have hp' : tmps[p]?.getD undef = .pointer (some ⟨g, 0, none⟩) := by simpa using hp
 have hq' : tmps[q]?.getD undef = .pointer (some ⟨k, 0, none⟩) := by simpa using hq
 simp [results, h, hp', hq', asAddr, run_loadVar_row w g _ 66 C (0, 0) _ hC hu rfl (by rw [infoB, h2]), run_loadVar_row w k _ 66 D (0, 0) _ hD hu rfl (by rw [infoB, h3])]
theorem pm_quo (p q : Bool) (X Y : Nat) : (pm p X).tdiv (pm q Y) = pm (p != q) (X / Y) := by
 cases p <;> cases q <;> simp [pm, Int.neg_tdiv, Int.tdiv_neg]
theorem pm_rest (p q : Bool) (X Y : Nat) : (pm p X).tmod (pm q Y) = pm p (X % Y) := by
 cases p <;> cases q <;> simp [pm, Int.neg_tmod, Int.tmod_neg] <;> exact Int.tmod_eq_emod_of_nonneg (by omega)
def Guess3 (a b c v u g : Nat) : Prop := ∀ q, q < 18446744073709551616 -> q * (v * 18446744073709551616 + u) <= (a * 18446744073709551616 + b) * 18446744073709551616 + c -> q <= g
theorem guess3_first {a b c v u : Nat} (hv : 0 < v) (hc : c < 18446744073709551616) : Guess3 a b c v u ((18446744073709551616 * a + b) / v) := by
 intro q _ h
 rw [Nat.le_div_iff_mul_le hv]
 have h1 : q * v * 18446744073709551616 <= q * (v * 18446744073709551616 + u) := by
  rw [Nat.mul_add, Nat.mul_assoc]
  exact Nat.le_add_right _ _
 generalize q * v = k at *
 generalize q * (v * 18446744073709551616 + u) = l at *
 omega
theorem guess3_less {a b c v u t r : Nat} (hG : Guess3 a b c v u t) (h : t * v + r = a * 18446744073709551616 + b) (hlt : r * 18446744073709551616 + c < t * u) : 1 <= t /\ Guess3 a b c v u (t - 1) := by
 have h1 : 1 <= t := by
  rcases Nat.eq_zero_or_pos t with h0 | h0
  ·subst h0; rw [Nat.zero_mul] at hlt; omega
  ·exact h0
 refine ⟨h1, fun q hq hle => ?_⟩
 have h2 := hG q hq hle
 rcases Nat.lt_or_ge q t with h3 | h3
 ·omega
 ·have e : q = t := by omega
  subst e
  rw [<- h] at hle
  have e2 : q * (v * 18446744073709551616 + u) = q * v * 18446744073709551616 + q * u := by rw [Nat.mul_add, Nat.mul_assoc]
  rw [e2, Nat.add_mul] at hle
  omega
set_option maxHeartbeats 2000000 in
theorem guess3_any (a b c v u : Nat) (ha : a < 18446744073709551616) (hb : b < 18446744073709551616) (hc : c < 18446744073709551616) (hv : v < 18446744073709551616) (hu : u < 18446744073709551616) (w : World) :
   Calls Tryz.prog 115 #[.int .u64 (a : Nat), .int .u64 (b : Nat), .int .u64 (c : Nat), .int .u64 (v : Nat), .int .u64 (u : Nat)] w fun e w' => Up w w' /\ ∃ x, e = .returned x /\ ∃ g : Nat, x = .int .u64 (g : Nat) /\ g < 18446744073709551616 /\ Guess3 a b c v u g := by
 by_cases h : v <= a
 ·go_enter Tryz.func115, Tryz.ntmps115
  go_wp2
  go_ret
  exact ⟨gUp, _, rfl, 18446744073709551615, rfl, by omega, fun q hq _ => by omega⟩
 ·have hD := fun w => div64_any a b v hv hb (by omega) w
  have hG := guess3_first (a := a) (b := b) (u := u) (show 0 < v by omega) hc
  have hq := short_q (show a < v by omega) hb
  have hr := Nat.mod_lt (18446744073709551616 * a + b) (show 0 < v by omega)
  have hdm := Nat.div_add_mod (18446744073709551616 * a + b) v
  generalize (18446744073709551616 * a + b) / v = t0 at *
  generalize (18446744073709551616 * a + b) % v = r0 at *
  have HD := hid hD
  have HG := hid hG
  have HE := hid (show t0 * v + r0 = a * 18446744073709551616 + b by rw [Nat.mul_comm t0, hdm]; omega)
  clear hD hG hdm
  go_enter Tryz.func115, Tryz.ntmps115
  go_wp2_with (go_at_call 112; (with_reducible refine (HD.out _).mono ?_); rintro e w' ⟨rfl, hu1⟩)
  go_loopw [11, 12, 13] (fun tt tr ti wr => ∃ (t r i : Nat), tt = .int .u64 (t : Nat) /\ tr = .int .u64 (r : Nat) /\ ti = .int .i64 (i : Nat) /\ i <= 2 /\ t < 18446744073709551616 /\ r < 18446744073709551616 /\ t * v + r = a * 18446744073709551616 + b /\ Guess3 a b c v u t /\ Up w wr)
   (fun _ _ ti _ => 2 - (intOf ti).toNat)
  case atStart => exact ⟨t0, r0, 0, rfl, rfl, rfl, by omega, hq, by omega, HE.out, HG.out, gUp⟩
  case round =>
   obtain ⟨t, r, i, rfl, rfl, rfl, hi, ht, hr1, he, hg, hup⟩ := hrel
   have He := hid he
   have Hg := hid hg
   clear he hg HE HG
   by_cases hi2 : i < 2
   ·obtain ⟨hi1, lo1, hm, eh, el⟩ : ∃ h l : Nat, Hid (∀ w, Calls Tryz.prog 91 #[.int .u64 t, .int .u64 u] w fun e w' => e = .returned (.tuple #[.int .u64 (h : Nat), .int .u64 (l : Nat)]) /\ w' = w) /\
     h = t * u / 18446744073709551616 /\ l = t * u % 18446744073709551616 := ⟨_, _, hid (Tryz.bits_Mul64 t u ht hu), rfl, rfl⟩
    have hml : t * u = hi1 * 18446744073709551616 + lo1 := by omega
    have hlo : lo1 < 18446744073709551616 := by omega
    have hhi : hi1 < 18446744073709551616 := by
     have : t * u <= 18446744073709551615 * 18446744073709551615 := Nat.mul_le_mul (by omega) (by omega)
     omega
    have HML := hid hml
    clear eh el hml
    by_cases hle : hi1 < r \/ (hi1 = r /\ lo1 <= c)
    ·rcases hle with hlt | ⟨hee, hll⟩
     ·go_wp2_with (first | go_skip | (go_at_call 91; (with_reducible refine (hm.out _).mono ?_); rintro e w' ⟨rfl, rfl⟩))
      go_ret
      exact ⟨gUp, _, rfl, t, rfl, ht, Hg.out⟩
     ·subst hee
      go_wp2_with (first | go_skip | (go_at_call 91; (with_reducible refine (hm.out _).mono ?_); rintro e w' ⟨rfl, rfl⟩))
      go_ret
      exact ⟨gUp, _, rfl, t, rfl, ht, Hg.out⟩
    ·by_cases hee : hi1 = r
     ·have hll : ¬ lo1 <= c := fun h2 => hle (.inr ⟨hee, h2⟩)
      subst hee
      clear hle
      obtain ⟨h1t, hG2⟩ := guess3_less Hg.out He.out (by have := HML.out; omega)
      obtain ⟨T, hT⟩ : ∃ T, t - 1 = T := ⟨_, rfl⟩
      rw [hT] at hG2
      have eg : IntKind.u64.wrap ((t : Int) - 1) = (T : Nat) := by rw [IntKind.wrap_u64]; omega
      have HG2 := hid hG2
      have HT := hid (show t = T + 1 by omega)
      obtain ⟨s, x, hadd, hs, hsl, hx1⟩ : ∃ s x : Nat, (∀ w, (callFunc 89 #[.int .u64 (hi1 : Nat), .int .u64 (v : Nat), .int .u64 0]).run Tryz.prog w = .ok (.value (.tuple #[.int .u64 (s : Nat), .int .u64 (x : Nat)])) w) /\ Hid (s + x * 18446744073709551616 = hi1 + v) /\ s < 18446744073709551616 /\ x <= 1 := by
       have h := run_add hi1 v 0 (by omega)
       simp only [show ((0 : Nat) : Int) = 0 from rfl] at h
       exact ⟨_, _, h, hid (by omega), Nat.mod_lt _ (by decide), by omega⟩
      clear hG2 hT h1t
      rcases (show x = 0 \/ x = 1 by omega) with rfl | rfl
      ·go_wp2_with (first | go_skip | (go_at_call 91; (with_reducible refine (hm.out _).mono ?_); rintro e w' ⟨rfl, rfl⟩))
       go_roundw
       case rel =>
        refine ⟨T, s, i + 1, rfl, rfl, by go_num, by omega, by have := HT.out; omega, hsl, ?_, HG2.out, gUp⟩
        have h1 := He.out
        have h2 := hs.out
        rw [HT.out, Nat.add_mul] at h1
        omega
       case measure => simp [intOf] <;> omega
      ·go_wp2_with (first | go_skip | (go_at_call 91; (with_reducible refine (hm.out _).mono ?_); rintro e w' ⟨rfl, rfl⟩))
       go_ret
       exact ⟨gUp, _, rfl, T, rfl, by have := HT.out; omega, HG2.out⟩
     ·have hn : ¬ hi1 < r := fun h2 => hle (.inl h2)
      have hb1 : ((hi1 : Int) == (r : Int)) = false := by simp; omega
      clear hle
      obtain ⟨h1t, hG2⟩ := guess3_less Hg.out He.out (by have := HML.out; omega)
      obtain ⟨T, hT⟩ : ∃ T, t - 1 = T := ⟨_, rfl⟩
      rw [hT] at hG2
      have eg : IntKind.u64.wrap ((t : Int) - 1) = (T : Nat) := by rw [IntKind.wrap_u64]; omega
      have HG2 := hid hG2
      have HT := hid (show t = T + 1 by omega)
      obtain ⟨s, x, hadd, hs, hsl, hx1⟩ : ∃ s x : Nat, (∀ w, (callFunc 89 #[.int .u64 (r : Nat), .int .u64 (v : Nat), .int .u64 0]).run Tryz.prog w = .ok (.value (.tuple #[.int .u64 (s : Nat), .int .u64 (x : Nat)])) w) /\ Hid (s + x * 18446744073709551616 = r + v) /\ s < 18446744073709551616 /\ x <= 1 := by
       have h := run_add r v 0 (by omega)
       simp only [show ((0 : Nat) : Int) = 0 from rfl] at h
       exact ⟨_, _, h, hid (by omega), Nat.mod_lt _ (by decide), by omega⟩
      clear hG2 hT h1t
      rcases (show x = 0 \/ x = 1 by omega) with rfl | rfl
      ·go_wp2_with (first | go_skip | (go_at_call 91; (with_reducible refine (hm.out _).mono ?_); rintro e w' ⟨rfl, rfl⟩))
       go_roundw
       case rel =>
        refine ⟨T, s, i + 1, rfl, rfl, by go_num, by omega, by have := HT.out; omega, hsl, ?_, HG2.out, gUp⟩
        have h1 := He.out
        have h2 := hs.out
        rw [HT.out, Nat.add_mul] at h1
        omega
       case measure => simp [intOf] <;> omega
      ·go_wp2_with (first | go_skip | (go_at_call 91; (with_reducible refine (hm.out _).mono ?_); rintro e w' ⟨rfl, rfl⟩))
       go_ret
       exact ⟨gUp, _, rfl, T, rfl, by have := HT.out; omega, HG2.out⟩
   ·go_wp2
    go_ret
    exact ⟨hup, _, rfl, t, rfl, ht, Hg.out⟩
theorem op_shrI {P : Program} {o : Oper} {a : Act} {x y : Operand} {t u : TypeId} (ho : o.op = .binOp .shr t x y u) {X s : Nat} (hx : a.eval x = .int .u64 (X : Nat)) (hy : a.eval y = .int .i64 (s : Nat)) (hs : s <= 64) (w : World) :
   (execOp a.eval o).run P w = .ok (.value (.int .u64 ((X / 2 ^ s : Nat) : Int))) w := by
 unfold execOp
 simp only [ho, hx, hy, eqGuard, binOp, shift_shr .u64 .i64 (X : Int) (s : Int) (by omega) (show (s : Int) <= 64 by omega)]
 simp
theorem shrIP {P : Program} {t u : TypeId} {ops : Array Oper} {rest : List Oper} {Q : Exit -> Act -> World -> Prop} {a : Act} {w : World} {d : Option Tmp} {p q : Tmp} {ty : TypeId} {pos : String} {af : Array Edge} {gd : Option (Nat × Bool)} {X Y : Nat}
   (hw : Region.wanted { dst := d, op := .binOp .shr t (.tmp p) (.tmp q) u, type := ty, pos := pos, after := af, guard := gd } (yielded ops a.tmps) = true) (hx : a.eval (.tmp p) = .int .u64 (X : Nat)) (hy : a.eval (.tmp q) = .int .i64 (Y : Nat)) (hs : Y <= 64)
   (h : wpList P ops Q rest (a.put d (.int .u64 ((X / 2 ^ Y : Nat) : Int))) w) : wpList P ops Q ({ dst := d, op := .binOp .shr t (.tmp p) (.tmp q) u, type := ty, pos := pos, after := af, guard := gd } :: rest) a w := wpList_run hw (op_shrI rfl hx hy hs w) h
theorem op_shlI {P : Program} {o : Oper} {a : Act} {x y : Operand} {t u : TypeId} (ho : o.op = .binOp .shl t x y u) {X s : Nat} (hx : a.eval x = .int .u64 (X : Nat)) (hy : a.eval y = .int .i64 (s : Nat)) (hs : s <= 64) (w : World) :
   (execOp a.eval o).run P w = .ok (.value (.int .u64 ((X * 2 ^ s % 18446744073709551616 : Nat) : Int))) w := by
 have e : IntKind.u64.wrap ((X : Int) * 2 ^ s) = ((X * 2 ^ s % 18446744073709551616 : Nat) : Int) := by
  rw [IntKind.wrap_u64, show (2 : Int) ^ s = ((2 ^ s : Nat) : Int) by simp, <- Int.natCast_mul]
  generalize X * 2 ^ s = q
  omega
 unfold execOp
 simp only [ho, hx, hy, eqGuard, binOp, shift_shl .u64 .i64 (X : Int) (s : Int) (by omega) (show (s : Int) <= 64 by omega)]
 simpa using e
def rsf (x s i : Nat) : Nat -> Nat := fun j => if j < i then rsh (limb x) s j else 0
theorem rsf_next (x s i : Nat) : upd (rsf x s i) i (rsh (limb x) s i) = rsf x s (i + 1) := by
 funext j
 unfold upd rsf
 by_cases e : j = i
 ·subst e; simp
 ·rw [if_neg e]
  by_cases h : j < i
  ·rw [if_pos h, if_pos (by omega)]
  ·rw [if_neg h, if_neg (by omega)]
theorem rsh_last {x s i : Nat} (h : limb x (i + 1) = 0 \/ s = 0) : rsh (limb x) s i = limb x i / 2 ^ s := by
 unfold rsh
 rcases h with h | h
 ·rw [h]; simp
 ·subst h; simp [Nat.mod_one]
theorem rsh_all {x s : Nat} (hs : s < 64) : sumL (rsh (limb x) s) (nl x) = x / 2 ^ s := by
 rw [rsh_num (by omega) (fun i _ => limb_lt x i), sumL_limb, Nat.mod_eq_of_lt (Nat.lt_of_lt_of_le (lt_bp_nl x) (bp_mono (by omega)))]
 exact Nat.mod_eq_of_lt (Nat.lt_of_le_of_lt (Nat.div_le_self _ _) (lt_bp_nl x))
set_option maxHeartbeats 2000000 in
theorem right_am {x s : Nat} {va : Value} {w : World} (ha : Am w va x) (hx : nl x < 100000) (hs : s < 64) :
   Calls Tryz.prog 116 #[va, .int .i64 (s : Nat)] w fun e w' => Up w w' /\ ∃ v, e = .returned v /\ Am w' v (x / 2 ^ s) := by
 obtain ⟨a, ca, rfl, hca1, hca0⟩ := ha.open
 obtain ⟨n, hn⟩ : ∃ n, nl x = n := ⟨_, rfl⟩
 have hz : ∀ j, n <= j -> limb x j = 0 := fun j hj => limb_nl (by omega)
 have hA := rsh_all (x := x) hs
 rw [hn] at hca1 hca0 hx hA ⊢
 have HZ := hid hz
 have HA := hid hA
 clear ha hn hz hA
 have hs2 : s <= 64 := by omega
 go_enter Tryz.func116, Tryz.ntmps116
 go_wp2_with (first | ((with_reducible apply mkP (n := n)); exact rfl; (first | rfl | omega); omega))
 go_loopw [6] (fun ti wr => ∃ (i : Nat), i <= n /\ ti = .int .i64 (i : Nat) /\ Row wr w.heap.size 100 n (rsf x s i) /\ Below w.heap.size w wr)
  (fun ti _ => n - (intOf ti).toNat)
 case atStart => exact ⟨0, by omega, rfl, by rw [show rsf x s 0 = fun _ => 0 by funext j; simp [rsf]]; exact row_newc _ _ _ rfl, gUp⟩
 case round =>
  obtain ⟨i, hi, rfl, hS, hB⟩ := hrel
  by_cases hlt : i < n
  ·obtain ⟨ba, rfl, hba, hca⟩ := hca0 i hlt
   have hcx := hca wr hB
   have hcs := hS.cell i hlt
   have hfs := hS.frozen i
   have hla := limb_lt x i
   obtain ⟨r, hr⟩ : ∃ r, limb x i / 2 ^ s = r := ⟨_, rfl⟩
   have gS := hS.set i r
   have gB := hB.setCell (p := ⟨w.heap.size, i, none⟩) (Nat.le_refl _) (.int .u64 (r : Nat))
   have HR := hid hr
   by_cases hmore : 0 < s /\ i + 1 < n
   ·obtain ⟨h0, h1⟩ := hmore
    obtain ⟨bb, he, hbb, hcb⟩ := hca0 (i + 1) h1
    obtain rfl : ba = bb := by simpa using he
    have d1 : decide ((0 : Int) < (s : Nat)) = true := decide_eq_true (by omega)
    have e1 : IntKind.i64.wrap ((i : Int) + 1) = (i : Int) + 1 := IntWalk.i64_in _ (by omega)
    have d2 : decide ((i : Int) + 1 < (n : Nat)) = true := decide_eq_true (by omega)
    have d3 : ((i : Int) + 1).toNat = i + 1 := by omega
    have d4 : (0 : Int) <= (i : Int) + 1 := by omega
    have d5 : (i : Int) + 1 < (n : Nat) := by omega
    have e2 : IntKind.i64.wrap (64 - (s : Int)) = ((64 - s : Nat) : Int) := by rw [IntWalk.i64_in _ (by omega)]; omega
    have hor := rsh_or (x := limb x i) (y := limb x (i + 1)) (show s <= 64 by omega) hla
    rw [hr] at hor
    have hc2 := hcb _ gB
    have hc3 := gS.cell i hlt
    rw [upd_same] at hc3
    have hrl : r < 18446744073709551616 := by rw [<- hr]; exact Nat.lt_of_le_of_lt (Nat.div_le_self _ _) hla
    obtain ⟨z, hz⟩ : ∃ z, 64 - s = z := ⟨_, rfl⟩
    rw [hz] at e2 hor
    have hz64 : z <= 64 := by omega
    have Hor := hid hor
    have Hz := hid hz
    clear hS hB hr hor he hz
    go_upto_region 7 with (first | go_skip | ((with_reducible apply shrIP); exact rfl; exact rfl; exact rfl; exact hs2; rw [HR.out]))
    refine opU (S := (fun wq => Row wq w.heap.size 100 n (upd (rsf x s i) i r) /\ wq.cell? ⟨w.heap.size, i, none⟩ = some (.int .u64 (r : Nat)) /\ wq.cell? ⟨ba, i + 1, none⟩ = some (.int .u64 (limb x (i + 1) : Nat)) /\ Below w.heap.size w wq)) (req := (fun j => j != 14)) (fun _ _ h hu => ⟨(h.1).up hu, hu.cell (h.2.1), hu.cell (h.2.2.1), below_up (h.2.2.2) hu⟩) ⟨gRow, (by first | assumption | (apply Blk.cell; exact gBlk; exact rfl)), (by first | assumption | (apply Blk.cell; exact gBlk; exact rfl)), gUp⟩ (fun wS hSS hSu => ?_)
    have ⟨hS1, hS2, hS3, hSB⟩ := hSS
    clear hc2 hc3 gS gB
    refine tkP 0 (some 34) hSu ?_
    refine tkP 1 (some 35) hSu ?_
    refine tkP 2 (some 36) hSu ?_
    refine tkT 3 (some 37) rfl hSu hSS ?_ (hy := fun w' hSw => by ((try dsimp only at hSw); (try obtain ⟨_, _, _, _⟩ := hSw); go_simp; (try exact rfl)))
    refine tkP 4 (some 38) hSu ?_
    refine tkP 5 (some 39) hSu ?_
    refine tkP 6 (some 40) hSu ?_
    refine tkP 7 (some 41) hSu ?_
    refine tkT 8 (some 42) rfl hSu hSS ?_ (hy := fun w' hSw => by ((try dsimp only at hSw); (try obtain ⟨_, _, _, _⟩ := hSw); go_simp; (try exact rfl)))
    refine tkP 9 (some 43) hSu ?_
    refine tkP 10 (some 44) hSu ?_
    refine tkO 11 (some 45) rfl hSu ?_ (hy := fun w' => op_shlI rfl rfl rfl hz64 _)
    refine tkO 12 (some 46) rfl hSu ?_ (hy := fun w' => op_or rfl rfl rfl hrl (Nat.mod_lt _ (by decide)) _)
    refine tkP 13 (some 47) hSu ?_
    obtain ⟨v, hv⟩ : ∃ v, r ||| limb x (i + 1) * 2 ^ z % 18446744073709551616 = v := ⟨_, rfl⟩
    rw [hv]
    have hvr : v = rsh (limb x) s i := by
     rw [<- hv, Hor.out]
     unfold rsh
     rw [Hz.out, HR.out]
    have HV := hid hvr
    clear hv hvr
    refine wpAnyU_one (i := 14) rfl (by kernel_rfl) (by rfl) fun w1 hw1 => ?_
    have hcW := (hS1.up hw1).cell i (by omega)
    have hfW := (hS1.up hw1).frozen i
    go_simp
    clear hcW hfW
    refine wpAnyU_done (by kernel_rfl) (fun wF huE => ?_) _
    have gS : Row wF w.heap.size 100 n (rsf x s (i + 1)) := by
     have h := ((hS1.up hw1).set i v).up huE
     rw [show upd (upd (rsf x s i) i r) i v = rsf x s (i + 1) by rw [<- rsf_next, <- HV.out]; funext j; unfold upd; split <;> rfl] at h
     exact h
    have gB := below_up ((below_up hSB hw1).setCell (p := ⟨w.heap.size, i, none⟩) (Nat.le_refl _) (.int .u64 (v : Nat))) huE
    clear hS1 hS2 hS3 hSB hSS hw1 huE
    go_wp2
    go_roundw
    case rel => exact ⟨i + 1, by omega, by go_num, gS, gB⟩
    case measure => simp [intOf] <;> omega
   ·have hlast : rsh (limb x) s i = r := by
     rw [<- hr]
     refine rsh_last ?_
     by_cases h0 : s = 0
     ·exact .inr h0
     ·exact .inl (HZ.out _ (by omega))
    rw [show upd (rsf x s i) i r = rsf x s (i + 1) by rw [<- rsf_next, hlast]] at gS
    clear hS hB hr hlast
    by_cases h0 : 0 < s
    ·have h1 : ¬ i + 1 < n := fun h => hmore ⟨h0, h⟩
     have d1 : decide ((0 : Int) < (s : Nat)) = true := decide_eq_true (by omega)
     have e1 : IntKind.i64.wrap ((i : Int) + 1) = (i : Int) + 1 := IntWalk.i64_in _ (by omega)
     have d2 : decide ((i : Int) + 1 < (n : Nat)) = false := decide_eq_false (by omega)
     clear hmore
     go_wp2_with (first | go_skip | ((with_reducible apply shrIP); exact rfl; exact rfl; exact rfl; exact hs2; rw [HR.out]))
     go_roundw
     case rel => exact ⟨i + 1, by omega, by go_num, gS, gB⟩
     case measure => simp [intOf] <;> omega
    ·have d1 : decide ((0 : Int) < (s : Nat)) = false := decide_eq_false (by omega)
     clear hmore
     go_wp2_with (first | go_skip | ((with_reducible apply shrIP); exact rfl; exact rfl; exact rfl; exact hs2; rw [HR.out]))
     go_roundw
     case rel => exact ⟨i + 1, by omega, by go_num, gS, gB⟩
     case measure => simp [intOf] <;> omega
  ·obtain rfl : i = n := by omega
   have hlt2 : ∀ j, j < i -> rsf x s i j < 18446744073709551616 := fun j hj => by
    unfold rsf
    rw [if_pos hj]
    exact rsh_lt (by omega) (limb_lt x j)
   have he : sumL (rsf x s i) i = x / 2 ^ s := by
    rw [<- HA.out]
    exact sumL_congr fun j hj => by unfold rsf; rw [if_pos hj]
   have ht := trim_row w.heap.size i i i (rsf x s i) wr hS (Nat.le_refl _) (Nat.le_refl _) (by omega)
   have hres := am_row (c := i) hS (Nat.le_refl _) (Nat.le_refl _) hlt2
   rw [he] at hres
   have HT := hid ht
   have HRS := hid hres
   clear ht hres he hS
   go_wp2_with (first | (go_at_call 49; (with_reducible refine HT.out.mono ?_); rintro e wT ⟨rfl, huT⟩))
   go_ret
   exact ⟨gUp, _, rfl, HRS.out.up huT⟩
set_option maxHeartbeats 4000000 in
theorem left_row {x s : Nat} {va : Value} {w : World} (ha : Am w va x) (hx : nl x < 100000) (h0 : 0 < x) (hs : s < 64) :
   Calls Tryz.prog 114 #[va, .int .i64 (s : Nat)] w fun e w' => Up w w' /\ ∃ v, e = .returned v /\ ∃ S : Nat -> Nat, v = .slice (some ⟨w.heap.size, 0, none⟩) (nl (x * 2 ^ s)) (nl x + 1) /\ (∀ j, j < nl x + 1 -> S j = limb (x * 2 ^ s) j) /\ Row w' w.heap.size 100 (nl x + 1) S := by
 obtain ⟨a, ca, rfl, hca1, hca0⟩ := ha.open
 obtain ⟨n, hn⟩ : ∃ n, nl x = n := ⟨_, rfl⟩
 have hA : sumL (limb x) n = x := by rw [<- hn]; exact sum_nl x
 have hn0 : 0 < n := by rw [<- hn]; exact nl_pos h0
 rw [hn] at hca1 hca0 hx ⊢
 have HA := hid hA
 clear ha hn hA
 have hs2 : s <= 64 := by omega
 have eq0 : (s : Int).tdiv 64 = 0 := by
  rw [show (64 : Int) = ((64 : Nat) : Int) from rfl, <- Int.ofNat_tdiv, Nat.div_eq_of_lt hs]; rfl
 have eq1 : s / 64 = 0 := Nat.div_eq_of_lt hs
 have er0 : (s : Int).tmod 64 = (s : Nat) := by
  rw [show (64 : Int) = ((64 : Nat) : Int) from rfl, <- Int.ofNat_tmod, Nat.mod_eq_of_lt hs]
 have en0 : ((n : Int) == 0) = false := by simp; omega
 have en1 : IntKind.i64.wrap (n : Int) = (n : Nat) := IntWalk.i64_in _ (by omega)
 have en2 : IntKind.i64.wrap ((n : Int) + 1) = (n : Int) + 1 := IntWalk.i64_in _ (by omega)
 go_enter Tryz.func114, Tryz.ntmps114
 go_wp2_with (first | ((with_reducible apply mkP (n := n + 1)); exact rfl; (first | rfl | omega | (simp; done)); omega))
 go_loopw [7] (fun ti wr => ∃ (i : Nat) (S : Nat -> Nat), i <= n /\ ti = .int .i64 (i : Nat) /\ (∀ j, j < n + 1 -> S j < 18446744073709551616) /\ sumL S (i + 1) = sumL (limb x) i * 2 ^ s /\ S i < 2 ^ s /\ (∀ j, i < j -> j < n + 1 -> S j = 0) /\ Row wr w.heap.size 100 (n + 1) S /\ Below w.heap.size w wr)
  (fun ti _ => n - (intOf ti).toNat)
 case atStart => exact ⟨0, fun _ => 0, by omega, rfl, fun _ _ => by simp, by simp [sumL_succ, sumL_zero], Nat.two_pow_pos s, fun _ _ _ => rfl, row_newc _ _ _ rfl, gUp⟩
 case round =>
  obtain ⟨i, S, hi, rfl, hSb, hsum, hSi, hS0, hS, hB⟩ := hrel
  have HSb := hid hSb
  have Hsum := hid hsum
  have HS0 := hid hS0
  clear hSb hsum hS0
  by_cases hlt : i < n
  ·obtain ⟨ba, rfl, hba, hca⟩ := hca0 i hlt
   have ew0 : IntKind.i64.wrap 0 = 0 := by rw [IntKind.wrap_i64]; rfl
   have ei1 : IntKind.i64.wrap (i : Int) = (i : Nat) := IntWalk.i64_in _ (by omega)
   have ei2 : IntKind.i64.wrap ((i : Int) + 1) = (i : Int) + 1 := IntWalk.i64_in _ (by omega)
   have ei3 : ((i : Int) + 1).toNat = i + 1 := by omega
   have ei4 : (0 : Int) <= (i : Int) + 1 := by omega
   have ei5 : (i : Int) < (n : Int) + 1 := by omega
   have ei6 : (i : Int) + 1 < (n : Int) + 1 := by omega
   have hcx := hca wr hB
   have hcs := hS.cell i (by omega)
   have hSi64 := HSb.out i (by omega)
   obtain ⟨r1, e1⟩ : ∃ r1, r1 = S i ||| limb x i * 2 ^ s % 18446744073709551616 := ⟨_, rfl⟩
   obtain ⟨r2, e2⟩ : ∃ r2, r2 = limb x i / 2 ^ (64 - s) := ⟨_, rfl⟩
   have hst := lsh_step hs (limb_lt x i) hSi
   rw [<- e1, <- e2] at hst
   obtain ⟨hst1, hst2, hst3⟩ := hst
   have He1 := hid e1.symm
   have He2 := hid e2.symm
   have Hst1 := hid hst1
   clear e1 e2 hst1
   go_wp2
   refine opU (S := (fun wq => Row wq w.heap.size 100 (n + 1) S /\ wq.cell? ⟨w.heap.size, i, none⟩ = some (.int .u64 (S i : Nat)) /\ wq.cell? ⟨ba, i, none⟩ = some (.int .u64 (limb x i : Nat)) /\ Below w.heap.size w wq)) (req := (fun j => j != 15)) (fun _ _ h hu => ⟨(h.1).up hu, hu.cell (h.2.1), hu.cell (h.2.2.1), below_up (h.2.2.2) hu⟩) ⟨gRow, (by first | assumption | (apply Blk.cell; exact gBlk; exact rfl)), (by first | assumption | (apply Blk.cell; exact gBlk; exact rfl)), gUp⟩ (fun wS hSS hSu => ?_)
   have ⟨hS1, hS2, hS3, hSB⟩ := hSS
   clear hcx hcs hS hB
   refine tkP 0 (some 26) hSu ?_
   refine tkP 1 (some 27) hSu ?_
   refine tkP 2 (some 28) hSu ?_
   refine tkP 3 (some 29) hSu ?_
   refine tkP 4 (some 30) hSu ?_
   refine tkP 5 (some 31) hSu ?_
   refine tkT 6 (some 32) rfl hSu hSS ?_ (hy := fun w' hSw => by ((try dsimp only at hSw); (try obtain ⟨_, _, _, _⟩ := hSw); go_simp; (try exact rfl)))
   refine tkP 7 (some 33) hSu ?_
   refine tkP 8 (some 34) hSu ?_
   refine tkP 9 (some 35) hSu ?_
   refine tkT 10 (some 36) rfl hSu hSS ?_ (hy := fun w' hSw => by ((try dsimp only at hSw); (try obtain ⟨_, _, _, _⟩ := hSw); go_simp; (try exact rfl)))
   refine tkP 11 (some 37) hSu ?_
   refine tkO 12 (some 38) rfl hSu ?_ (hy := fun w' => op_shlI rfl rfl rfl hs2 _)
   refine tkO 13 (some 39) rfl hSu ?_ (hy := fun w' => op_or rfl rfl rfl hSi64 (Nat.mod_lt _ (by decide)) _)
   rw [He1.out]
   refine tkP 14 (some 40) hSu ?_
   refine wpAnyU_one (i := 15) rfl (by kernel_rfl) (by rfl) fun w1 hw1 => ?_
   have hcW := (hS1.up hw1).cell i (by omega)
   have hfW := (hS1.up hw1).frozen i
   go_simp
   clear hcW hfW
   refine wpAnyU_done (by kernel_rfl) (fun wF huE => ?_) _
   have gM := ((hS1.up hw1).set i r1).up huE
   have gB := below_up ((below_up hSB hw1).setCell (p := ⟨w.heap.size, i, none⟩) (Nat.le_refl _) (.int .u64 (r1 : Nat))) huE
   clear hS1 hS2 hS3 hSB hSS hw1 huE
   have hr2 : r2 < 18446744073709551616 := by rw [<- He2.out]; exact Nat.lt_of_le_of_lt (Nat.div_le_self _ _) (limb_lt x i)
   by_cases hs0 : 0 < s
   ·have d1 : decide ((0 : Int) < (s : Nat)) = true := decide_eq_true (by omega)
    have ez : IntKind.i64.wrap (64 - (s : Int)) = ((64 - s : Nat) : Int) := by rw [IntWalk.i64_in _ (by omega)]; omega
    obtain ⟨z, hz⟩ : ∃ z, 64 - s = z := ⟨_, rfl⟩
    rw [hz] at ez
    have he2 := He2.out
    rw [hz] at he2
    have He3 := hid he2
    have hz64 : z <= 64 := by omega
    clear hz he2
    have hcx := hca wF gB
    have hcs := gM.cell (i + 1) (by omega)
    rw [upd_other _ _ _ (by omega), HS0.out (i + 1) (by omega) (by omega)] at hcs
    go_wp2_with fail
    refine opU (S := (fun wq => Row wq w.heap.size 100 (n + 1) (upd S i r1) /\ wq.cell? ⟨w.heap.size, i + 1, none⟩ = some (.int .u64 (0 : Nat)) /\ wq.cell? ⟨ba, i, none⟩ = some (.int .u64 (limb x i : Nat)) /\ Below w.heap.size w wq)) (req := (fun j => j != 17)) (fun _ _ h hu => ⟨(h.1).up hu, hu.cell (h.2.1), hu.cell (h.2.2.1), below_up (h.2.2.2) hu⟩) ⟨gRow, (by first | assumption | (apply Blk.cell; exact gBlk; exact rfl)), (by first | assumption | (apply Blk.cell; exact gBlk; exact rfl)), gUp⟩ (fun wS hSS hSu => ?_)
    have ⟨hS1, hS2, hS3, hSB⟩ := hSS
    clear hcx hcs gM gB
    refine tkP 0 (some 43) hSu ?_
    refine tkP 1 (some 44) hSu ?_
    refine tkP 2 (some 45) hSu ?_
    refine tkP 3 (some 46) hSu ?_
    refine tkP 4 (some 47) hSu ?_
    refine tkP 5 (some 48) hSu ?_
    refine tkP 6 (some 49) hSu ?_
    refine tkT 7 (some 50) rfl hSu hSS ?_ (hy := fun w' hSw => by ((try dsimp only at hSw); (try obtain ⟨_, _, _, _⟩ := hSw); go_simp; (try exact rfl)))
    refine tkP 8 (some 51) hSu ?_
    refine tkP 9 (some 52) hSu ?_
    refine tkP 10 (some 53) hSu ?_
    refine tkT 11 (some 54) rfl hSu hSS ?_ (hy := fun w' hSw => by ((try dsimp only at hSw); (try obtain ⟨_, _, _, _⟩ := hSw); go_simp; (try exact rfl)))
    refine tkP 12 (some 55) hSu ?_
    refine tkP 13 (some 56) hSu ?_
    refine tkO 14 (some 57) rfl hSu ?_ (hy := fun w' => op_shrI rfl rfl rfl hz64 _)
    rw [He3.out]
    refine tkO 15 (some 58) rfl hSu ?_ (hy := fun w' => op_or (X := 0) rfl rfl rfl (by decide) hr2 _)
    rw [Nat.zero_or]
    refine tkP 16 (some 59) hSu ?_
    refine wpAnyU_one (i := 17) rfl (by kernel_rfl) (by rfl) fun w1 hw1 => ?_
    have hcW := (hS1.up hw1).cell (i+1) (by omega)
    have hfW := (hS1.up hw1).frozen (i+1)
    go_simp
    clear hcW hfW
    refine wpAnyU_done (by kernel_rfl) (fun wF huE => ?_) _
    have gM := ((hS1.up hw1).set (i + 1) r2).up huE
    have gB := below_up ((below_up hSB hw1).setCell (p := ⟨w.heap.size, i + 1, none⟩) (Nat.le_refl _) (.int .u64 (r2 : Nat))) huE
    clear hS1 hS2 hS3 hSB hSS hw1 huE
    go_wp2
    go_roundw
    case rel =>
     refine ⟨i + 1, upd (upd S i r1) (i + 1) r2, by omega, by go_num, upd_lt (upd_lt HSb.out hst3) hr2, ?_, by rw [upd_same]; exact hst2, fun j h1 h2 => by rw [upd_other _ _ _ (by omega), upd_other _ _ _ (by omega)]; exact HS0.out j (by omega) h2, gM, gB⟩
     have h1 := Hsum.out
     have h2 := Hst1.out
     rw [sumL_succ] at h1
     rw [sumL_upd_succ, sumL_upd_succ, sumL_succ, Nat.add_mul, <- h1, bp_succ]
     have h3 : (r1 + r2 * 18446744073709551616) * bp i = (S i + limb x i * 2 ^ s) * bp i := by rw [h2]
     clear h1 h2 Hsum Hst1 He1 He2 hst2
     generalize limb x i = xk at *
     generalize S i = gk at *
     generalize bp i = b at *
     generalize 2 ^ s = p at *
     generalize sumL S i = T at *
     grind
    case measure => simp [intOf] <;> omega
   ·have d1 : decide ((0 : Int) < (s : Nat)) = false := decide_eq_false (by omega)
    have hz2 : r2 = 0 := by
     rw [<- He2.out, show 64 - s = 64 by omega]
     exact Nat.div_eq_of_lt (limb_lt x i)
    have gM2 : Row wF w.heap.size 100 (n + 1) (upd (upd S i r1) (i + 1) r2) := by
     refine gM.congr fun j hj => ?_
     by_cases e : j = i + 1
     ·rw [e, upd_same, upd_other _ _ _ (by omega), HS0.out (i + 1) (by omega) (by omega), hz2]
     ·rw [upd_other _ _ _ e]
    clear gM hz2
    have gM := hid gM2
    clear gM2
    go_wp2
    go_roundw
    case rel =>
     refine ⟨i + 1, upd (upd S i r1) (i + 1) r2, by omega, by go_num, upd_lt (upd_lt HSb.out hst3) hr2, ?_, by rw [upd_same]; exact hst2, fun j h1 h2 => by rw [upd_other _ _ _ (by omega), upd_other _ _ _ (by omega)]; exact HS0.out j (by omega) h2, gM.out, gB⟩
     have h1 := Hsum.out
     have h2 := Hst1.out
     rw [sumL_succ] at h1
     rw [sumL_upd_succ, sumL_upd_succ, sumL_succ, Nat.add_mul, <- h1, bp_succ]
     have h3 : (r1 + r2 * 18446744073709551616) * bp i = (S i + limb x i * 2 ^ s) * bp i := by rw [h2]
     clear h1 h2 Hsum Hst1 He1 He2 hst2
     generalize limb x i = xk at *
     generalize S i = gk at *
     generalize bp i = b at *
     generalize 2 ^ s = p at *
     generalize sumL S i = T at *
     grind
    case measure => simp [intOf] <;> omega
  ·obtain rfl : i = n := by omega
   have he := Hsum.out
   rw [HA.out] at he
   have ht := trim_row w.heap.size (i + 1) (i + 1) (i + 1) S wr hS (Nat.le_refl _) (Nat.le_refl _) (by omega)
   have hcl : ∀ j, j < i + 1 -> S j = limb (x * 2 ^ s) j := fun j hj => by rw [<- he]; exact (limb_sumL HSb.out hj).symm
   have hnl : lenL S (i + 1) = nl (x * 2 ^ s) := by rw [<- he, nl_sum HSb.out]
   rw [hnl] at ht
   have HCL := hid hcl
   have HSr := hid hS
   have HT := hid ht
   clear ht hcl hnl he hS
   go_wp2_with (first | (go_at_call 49; (with_reducible refine HT.out.mono ?_); rintro e wT ⟨rfl, huT⟩))
   go_ret
   exact ⟨gUp, _, rfl, S, rfl, HCL.out, HSr.out.up huT⟩
theorem guess3_ge {F V : Nat -> Nat} {m P W g : Nat} (hF : ∀ j, j < m + 3 -> F j < 18446744073709551616) (hW : sumL F (m + 3) = W) (hP : sumL V (m + 2) = P) (h0 : 0 < P) (hlt : W < P * 18446744073709551616) (hg : Guess3 (F (m + 2)) (F (m + 1)) (F m) (V (m + 1)) (V m) g) : W / P <= g := by
 refine hg (W / P) (by rw [Nat.div_lt_iff_lt_mul h0, Nat.mul_comm]; exact hlt) ?_
 have h1 := sumL_lt (f := F) (k := m) fun j hj => hF j (by omega)
 rw [sumL_succ, sumL_succ, sumL_succ, show bp (m + 2) = bp m * 18446744073709551616 * 18446744073709551616 by rw [bp_succ (m + 1), bp_succ m], bp_succ m] at hW
 rw [sumL_succ, sumL_succ, bp_succ] at hP
 have h2 := Nat.div_mul_le_self W P
 generalize W / P = q at *
 have h3 : q * ((V (m + 1) * 18446744073709551616 + V m) * bp m) <= q * P := by
  refine Nat.mul_le_mul_left _ ?_
  have e : (V (m + 1) * 18446744073709551616 + V m) * bp m = V m * bp m + V (m + 1) * (bp m * 18446744073709551616) := by grind
  omega
 have h4 : q * (V (m + 1) * 18446744073709551616 + V m) * bp m < ((F (m + 2) * 18446744073709551616 + F (m + 1)) * 18446744073709551616 + F m + 1) * bp m := by
  have e : ((F (m + 2) * 18446744073709551616 + F (m + 1)) * 18446744073709551616 + F m + 1) * bp m = F m * bp m + F (m + 1) * (bp m * 18446744073709551616) + F (m + 2) * (bp m * 18446744073709551616 * 18446744073709551616) + bp m := by grind
  rw [e, Nat.mul_assoc]
  omega
 have h5 := Nat.lt_of_mul_lt_mul_right h4
 omega
theorem nl_left {x s : Nat} (h0 : 0 < x) (hs : s < 64) : nl x <= nl (x * 2 ^ s) /\ nl (x * 2 ^ s) <= nl x + 1 := by
 have h1 := lt_bp_nl x
 have h2 := bp_le_nl (nl_pos h0)
 have hp := Nat.two_pow_pos s
 have h3 : 2 ^ s <= 18446744073709551616 := Nat.pow_le_pow_right (n := 2) (by decide) (show s <= 64 by omega)
 constructor
 ·rcases Nat.lt_or_ge (nl (x * 2 ^ s)) (nl x) with h | h
  ·have h4 := lt_bp_nl (x * 2 ^ s)
   have h5 := bp_mono (show nl (x * 2 ^ s) <= nl x - 1 by omega)
   have h6 : x * 1 <= x * 2 ^ s := Nat.mul_le_mul_left _ hp
   omega
  ·exact h
 ·refine nl_le ?_
  rw [bp_succ]
  exact Nat.mul_lt_mul_of_lt_of_le h1 h3 (by decide)
theorem mul_step {t v c hi lo l2 c2 : Nat} (ht : t < 18446744073709551616) (hv : v < 18446744073709551616) (hc : c < 18446744073709551616) (eh : hi = t * v / 18446744073709551616) (el : lo = t * v % 18446744073709551616) (e1 : l2 = (lo + c + 0) % 18446744073709551616) (e2 : c2 = (lo + c + 0) / 18446744073709551616) :
   hi + c2 < 18446744073709551616 /\ l2 + (hi + c2) * 18446744073709551616 = t * v + c /\ l2 < 18446744073709551616 /\ hi < 18446744073709551616 /\ lo < 18446744073709551616 /\ c2 <= 1 := by
 have h1 : t * v <= 18446744073709551615 * 18446744073709551615 := Nat.mul_le_mul (by omega) (by omega)
 generalize t * v = p at *
 omega
theorem over_more {S S' T : Nat -> Nat} {N K i m P W W1 g X : Nat} (hm : i + m < N) (hi : i < K) (hS : ∀ j, j < N -> S j < 18446744073709551616) (hX : X = sumL T K * P + sumL S N) (hT : T i = 0) (hR : sumL S N < bp (i + m + 1))
   (hW : sumL (fun j => S (i + j)) (m + 1) = W) (hW1 : sumL (fun j => S' (i + j)) (m + 1) = W1) (ho : ∀ j, j < i \/ i + m < j -> S' j = S j) (he : W1 + g * P = W) (hlt : W1 < P) :
   X = sumL (upd T i g) K * P + sumL S' N /\ sumL S' N < P * bp i := by
 have hz := zero_above hR
 have e1 : sumL S N = sumL S i + W * bp i := by
  rw [sum_cut (show i + (m + 1) <= N by omega) (fun j h1 h2 => hz j (by omega) h2), sumL_split, hW]
 have e2 : sumL S' N = sumL S i + W1 * bp i := by
  rw [sum_cut (show i + (m + 1) <= N by omega) (fun j h1 h2 => by rw [ho j (by omega)]; exact hz j (by omega) h2), sumL_split, hW1, sumL_congr fun j hj => ho j (.inl hj)]
 have e3 := sumL_upd T g hi
 rw [hT, Nat.zero_mul, Nat.add_zero] at e3
 have h1 := sumL_lt (f := S) (k := i) fun j hj => hS j (by omega)
 constructor
 ·rw [e2, e3, hX, e1, <- he]
  grind
 ·rw [e2]
  have h2 : (W1 + 1) * bp i <= P * bp i := Nat.mul_le_mul_right _ hlt
  rw [Nat.add_mul] at h2
  omega
theorem over_start {x y n m s : Nat} (hx : x < bp n) (hm : 0 < m) (hmn : m <= n) (hs : s < 64) (hP : 9223372036854775808 * bp (m - 1) <= y * 2 ^ s) : x * 2 ^ s < bp (n + 1) /\ x * 2 ^ s < y * 2 ^ s * bp (n - m + 1) := by
 have h5 : 2 ^ s <= 9223372036854775808 := Nat.pow_le_pow_right (n := 2) (by decide) (show s <= 63 by omega)
 have h6 : x * 2 ^ s < bp n * 9223372036854775808 := Nat.mul_lt_mul_of_lt_of_le hx h5 (by decide)
 have h8 : 9223372036854775808 * bp (m - 1) * bp (n - m + 1) <= y * 2 ^ s * bp (n - m + 1) := Nat.mul_le_mul_right _ hP
 rw [Nat.mul_assoc, <- bp_add, show m - 1 + (n - m + 1) = n by omega] at h8
 rw [bp_succ]
 omega
theorem over_guess {S V : Nat -> Nat} {n m m1 m2 i P W g : Nat} (hm : m = m1 + 1) (hm2 : m1 = m2 + 1) (him : i + m < n + 1) (hS : ∀ j, j < n + 1 -> S j < 18446744073709551616) (hP : sumL V m = P) (h0 : 0 < P) (hR : sumL S (n + 1) < P * bp (i + 1))
   (hW : sumL (fun j => S (i + j)) (m + 1) = W) (hG : Guess3 (S (i + m)) (S (i + m1)) (S (i + m2)) (V m1) (V m2) g) : W / P <= g := by
 subst hm2
 subst hm
 have h3 : W < P * 18446744073709551616 := by
  have h4 : W * bp i <= sumL S (n + 1) := by
   obtain ⟨d, hd⟩ : ∃ d, n + 1 = i + (m2 + 1 + 1 + 1) + d := ⟨n + 1 - (i + (m2 + 1 + 1 + 1)), by omega⟩
   rw [hd, sumL_split, sumL_split, hW]
   omega
  rw [bp_succ] at hR
  have h5 : W * bp i < P * 18446744073709551616 * bp i := by
   have e : P * 18446744073709551616 * bp i = P * (bp i * 18446744073709551616) := by grind
   omega
  exact Nat.lt_of_mul_lt_mul_right h5
 exact guess3_ge (F := fun j => S (i + j)) (V := V) (m := m2) (fun j hj => hS _ (by omega)) hW hP h0 h3 hG
theorem wrap_room {c n : Nat} {f : Nat -> Nat} (hn : n < c) (h0 : f n = 0) :
   ((cells c f).toList.take (n * 1) ++ [Value.int .u64 0] ++ (cells c f).toList.drop (n * 1 + 1)).toArray = cells c f := by
 apply Array.ext'
 apply List.ext_getElem?
 intro i
 simp only [Nat.mul_one]
 have hl : (cells c f).toList.length = c := by simp [cells_size]
 have hl2 : (List.take n (cells c f).toList).length = n := by rw [List.length_take, hl]; omega
 by_cases h1 : i < n
 ·rw [List.append_assoc, List.getElem?_append_left (by omega), List.getElem?_take_of_lt h1]
 ·by_cases h2 : i = n
  ·subst h2
   rw [List.append_assoc, List.getElem?_append_right (by omega), hl2, Nat.sub_self]
   simp only [List.cons_append, List.getElem?_cons_zero]
   rw [Array.getElem?_toList, cells_get c f i hn, h0]
   rfl
  ·rw [List.append_assoc, List.getElem?_append_right (by omega), hl2, List.getElem?_append_right (by simp; omega), List.getElem?_drop]
   simp only [List.length_cons, List.length_nil]
   congr 1
   omega
theorem app0P {ops : Array Oper} {rest : List Oper} {Q : Exit -> Act -> World -> Prop} {a : Act} {w : World} {d : Option Tmp} {s u : Tmp} {ty : TypeId} {pos : String} {af : Array Edge} {g b n c : Nat} {f : Nat -> Nat}
   (hs : a.eval (.tmp s) = .slice (some ⟨g, 0, none⟩) n c) (hu : a.eval (.tmp u) = .slice (some ⟨b, 0, none⟩) 1 1) (hR : Row w g 100 c f) (hB : w.cell? ⟨b, 0, none⟩ = some (.int .u64 0)) (hn : n < c) (h0 : f n = 0)
   (h : wpList Tryz.prog ops Q rest (a.put d (.slice (some ⟨g, 0, none⟩) (n + 1) c)) (w.setRow g (cells c f))) :
   wpList Tryz.prog ops Q ({ dst := d, op := .call { callee := .builtin .append, args := #[.tmp s, .tmp u], argTypes := #[64, 64] }, type := ty, pos := pos, after := af, guard := none } :: rest) a w := by
 obtain ⟨i0, hi, hz0, hz1, hz2⟩ := info_parts infoU
 refine wpList_plain rfl fun _ hK => ?_
 have hr := run_append_room (P := Tryz.prog) w 64 ty 100 i0 undS hi g n c (cells c f) hR ⟨b, 0, none⟩ 1 1 [.int .u64 0] (by rw [hz1]; rfl)
  (fun j v hj => by
   cases j with
   | zero => simp only [List.getElem?_cons_zero, Option.some.injEq] at hj; subst hj; exact hB
   | succ j => simp at hj)
  (fun v hv => by simp at hv; subst hv; rfl) (by omega) (by rw [hz1]; simp [cells_size]; omega)
 rw [hz1, show ([Value.int .u64 0] : List Value).length = 1 from rfl, wrap_room hn h0] at hr
 unfold Oper.wp execOp
 simp only [resolve, invoke, builtin, Sem.run_bind, Sem.run_pure, Result.andThen_ok, List.map_toArray, List.map_cons, List.map_nil, hs, hu, hr]
 exact hK _ _ h
set_option maxHeartbeats 16000000 in
theorem over_long {x y : Nat} {va vb : Value} {w : World} (ha : Am w va x) (hb : Am w vb y) (hx : nl x < 50000) (hxy : y <= x) (hy : 2 <= nl y) :
   Calls Tryz.prog 88 #[va, vb] w fun e w' => Up w w' /\ ∃ a n c b m d, e = .returned (.tuple #[.slice a n c, .slice b m d]) /\ Am w' (.slice a n c) (x / y) /\ Am w' (.slice b m d) (x % y) := by
 obtain ⟨a, ca, rfl, hca1, hca0⟩ := ha.open
 obtain ⟨b, cb, rfl, hcb1, hcb0⟩ := hb.open
 have hxn := lt_bp_nl x
 have hyn := lt_bp_nl y
 have htop : limb y (nl y - 1) ≠ 0 := lenL_top (limb y) y (show 0 < nl y by omega)
 have hmn : nl y <= nl x := nl_le (Nat.lt_of_le_of_lt hxy hxn)
 have hy0 : 0 < y := nl_pos_iff.1 (by omega)
 obtain ⟨s, hs⟩ : ∃ s, s = 64 - Lib.bitLen (limb y (nl y - 1)) := ⟨_, rfl⟩
 obtain ⟨hP1, hP2, hs64⟩ := norm_part hyn (by omega) htop hs
 have hlz := fun w => Tryz.bits_LeadingZeros64 (limb y (nl y - 1) : Nat) w (by omega) (by have := limb_lt y (nl y - 1); omega)
 have hbl := (bitLen_spec (limb_lt y (nl y - 1)) htop).2.2.2
 rw [Int.toNat_natCast, show (64 : Int) - (Lib.bitLen (limb y (nl y - 1)) : Int) = (s : Nat) by omega] at hlz
 obtain ⟨hX1, hX2⟩ := over_start hxn (show 0 < nl y by omega) hmn hs64 hP2
 have HC := hid (fun w' (h : Up w w') => cmp_am (ha.up h) (hb.up h) (by omega) (by omega))
 have hL1 := fun w' (h : Up w w') => left_row (hb.up h) (by omega) hy0 hs64
 have hL2 := fun w' (h : Up w w') => left_row (ha.up h) (by omega) (by omega) hs64
 have hnP : nl (y * 2 ^ s) = nl y := by
  have h1 := nl_left hy0 hs64
  have h2 := nl_le hP1
  omega
 have hnX := nl_left (x := x) (by omega) hs64
 obtain ⟨bb, rfl, hbb, hcb⟩ := hcb0 (nl y - 1) (by omega)
 rw [hnP] at hL1
 have hlx := limb_lt y (nl y - 1)
 clear hcb0 hca0 hxn hyn htop hbl hs hnP
 obtain ⟨L, hL⟩ : ∃ L, nl (x * 2 ^ s) = L := ⟨_, rfl⟩
 rw [hL] at hL2 hnX
 obtain ⟨n, hn⟩ : ∃ n, nl x = n := ⟨_, rfl⟩
 obtain ⟨m, hm⟩ : ∃ m, nl y = m := ⟨_, rfl⟩
 rw [hn] at hL2 hnX hX1 hX2 hmn hx hca1 HC ⊢
 rw [hm] at hL1 hP1 hP2 hX2 hmn hy hlz hcb hlx hcb1 HC ⊢
 have HLn := hid hL
 clear hn hm hL
 obtain ⟨m1, hm1⟩ : ∃ m1, m = m1 + 1 := ⟨m - 1, by omega⟩
 obtain ⟨m2, hm2⟩ : ∃ m2, m1 = m2 + 1 := ⟨m1 - 1, by omega⟩
 rw [show m - 1 = m1 by omega] at hlz hcb hlx hP2
 obtain ⟨P, hP⟩ : ∃ P, y * 2 ^ s = P := ⟨_, rfl⟩
 obtain ⟨X2, hX2e⟩ : ∃ X2, x * 2 ^ s = X2 := ⟨_, rfl⟩
 rw [hP] at hL1 hP1 hP2 hX2
 rw [hX2e] at hL2 hX1 hX2
 have HP := hid hP
 have HX2 := hid hX2e
 have HX1 := hid hX1
 have HXK := hid hX2
 have HP1 := hid hP1
 have HP2 := hid hP2
 have HL1 := hid hL1
 have HL2 := hid hL2
 have HLZ := hid hlz
 have HCB := hid hcb
 have Hy0 := hid hy0
 have d1 : decide (ordZ x y < 0) = false := by
  unfold ordZ
  rw [if_neg (by omega)]
  split <;> simp
 have d2 : ((m : Int) == 1) = false := by simp; omega
 have em1 : IntKind.i64.wrap ((m : Int) - 1) = (m1 : Nat) := by rw [IntWalk.i64_in _ (by omega)]; omega
 have b1 : (m1 : Int) < (m : Nat) := by omega
 have b2 : m1 < m := by omega
 have Hm1 := hid hm1
 have Hm2 := hid hm2
 clear hL1 hL2 hlz hP hX2e hX1 hX2 hP1 hP2 hcb ha hb hxy hy0 hm1 hm2
 generalize limb y m1 = top at *
 go_enter Tryz.func88, Tryz.ntmps88
 go_wp2_with (first | (go_at_call 61; (with_reducible refine (HC.out _ gUp).mono ?_); rintro e wC ⟨rfl, huC⟩; have hct := HCB.out _ huC) | (go_at_call 113; (with_reducible refine (HLZ.out _).mono ?_); rintro e wC ⟨rfl, rfl⟩) | (go_at_call 114; (first | ((with_reducible refine (HL1.out _ gUp).mono ?_); rintro e wV ⟨huV, v, rfl, V, rfl, hV, gV⟩) | ((with_reducible refine (HL2.out _ gUp).mono ?_); rintro e wU ⟨huU, u, rfl, U, rfl, hU, gU⟩))))
 have l0 := huC.size
 have l1 := gV.lt
 have l2 := gU.lt
 have gQ := (gV.up huU).congr hV
 have gP := gU.congr hU
 have gB : Below w.heap.size w wU := gUp
 have Hs64 := hid hs64
 clear hct hV gV hU gU huC huV huU HL1 HL2 HC HLZ HCB d1 d2 b1 b2 hlx hs64 hbb em1
 generalize wC.heap.size = q at *
 generalize wV.heap.size = p at *
 have HnX := hid hnX
 have Hmn := hid hmn
 clear hnX hmn
 have hz0 : n = L -> limb X2 n = 0 := fun h => limb_nl (by rw [<- HX2.out, HLn.out, h]; exact Nat.le_refl _)
 have Hz0 := hid hz0
 clear hz0 HLn
 go_loopw [12] (fun tu wr => ∃ (L : Nat), n <= L /\ L <= n + 1 /\ tu = .slice (some ⟨p, 0, none⟩) L (n + 1) /\ (n = L -> limb X2 n = 0) /\ Row wr q 100 (m + 1) (limb P) /\ Row wr p 100 (n + 1) (limb X2) /\ Below w.heap.size w wr)
  (fun tu _ => n + 1 - slen tu)
 case atStart => exact ⟨L, HnX.out.1, HnX.out.2, rfl, Hz0.out, gQ, gP, gB⟩
 case round =>
  clear gQ gP gB l2 Hz0 HnX
  obtain ⟨L, hl1, hl2, rfl, hz0, gQ, gP, gB⟩ := hrel
  have en1 : IntKind.i64.wrap ((n : Int) + 1) = (n : Int) + 1 := IntWalk.i64_in _ (by omega)
  have lP := gP.lt
  rcases (show n = L \/ n + 1 = L by omega) with rfl | rfl
  ·have hz := hz0 rfl
   clear hz0
   go_wp2_with (first | ((with_reducible apply app0P (f := limb X2)); exact rfl; exact rfl; exact gP.up (Up.alloc _ _); simp; omega; exact hz))
   go_roundw
   case rel => exact ⟨n + 1, by omega, by omega, rfl, fun h => by omega, (gQ.up (Up.alloc _ _)).row_other _ (by omega), (gP.up (Up.alloc _ _)).setRow _, below_setRow (below_up gB (Up.alloc _ _)) (by omega) _⟩
   case measure => show n + 1 - (n + 1) < n + 1 - n; omega
  ·clear hz0 hl1 hl2
   have hmn := Hmn.out
   obtain ⟨K, hK⟩ : ∃ K, n - m + 1 = K := ⟨_, rfl⟩
   have eK1 : IntKind.i64.wrap ((n : Int) - (m : Int)) = (K : Int) - 1 := by rw [IntWalk.i64_in _ (by omega)]; omega
   have eK2 : IntKind.i64.wrap (K : Int) = (K : Nat) := IntWalk.i64_in _ (by omega)
   have hxk := HXK.out
   rw [hK] at hxk
   have HXK := hid hxk
   have HK := hid hK
   clear hmn hxk hK
   go_wp2_with (first | ((with_reducible apply mkP (n := K)); exact rfl; (first | rfl | omega); (have := HK.out; omega)))
   have gT : Row (wr.alloc (.cells (cells K (fun _ => 0)) 100)) wr.heap.size 100 K (fun _ => 0) := row_newc _ _ _ rfl
   refine wp_worldD (fun wd => Row wd q 100 (m + 1) (limb P) /\ Row wd p 100 (n + 1) (limb X2) /\ Row wd wr.heap.size 100 K (fun _ => 0) /\ Below w.heap.size w wd) ⟨gQ.up (Up.alloc _ _), gP.up (Up.alloc _ _), gT, below_up gB (Up.alloc _ _)⟩ (fun w0 hD => ?_)
   clear gQ gP gT gB
   obtain ⟨gQ, gP, gT, gB⟩ := hD
   generalize wr.heap.size = t at *
   have hPm : sumL (limb P) m = P := by rw [sumL_limb, Nat.mod_eq_of_lt HP1.out]
   have HPm := hid hPm
   have hP0 : 0 < P := by have := HP2.out; have := bp_pos m1; omega
   have HP0 := hid hP0
   clear hPm hP0 eK1 eK2 en1
   go_loopw [14] (fun ti wr => ∃ (k : Nat) (S T : Nat -> Nat), k <= K /\ ti = .int .i64 ((k : Int) - 1) /\ (∀ j, j < n + 1 -> S j < 18446744073709551616) /\ (∀ j, j < K -> T j < 18446744073709551616) /\ (∀ j, j < k -> T j = 0) /\ X2 = sumL T K * P + sumL S (n + 1) /\ sumL S (n + 1) < P * bp k /\
      Row wr q 100 (m + 1) (limb P) /\ Row wr p 100 (n + 1) S /\ Row wr t 100 K T /\ Below w.heap.size w wr)
    (fun ti _ => (intOf ti + 1).toNat)
   case atStart =>
    refine ⟨K, limb X2, fun _ => 0, Nat.le_refl _, rfl, fun j _ => limb_lt _ j, fun _ _ => by simp, fun _ _ => rfl, ?_, ?_, gQ, gP, gT, gB⟩
    ·rw [sumL_zeros, sumL_limb, Nat.mod_eq_of_lt HX1.out]; omega
    ·rw [sumL_limb, Nat.mod_eq_of_lt HX1.out]; exact HXK.out
   case round =>
    clear gQ gP gT gB
    obtain ⟨k, S, T, hk, rfl, hS, hT, hT0, hX, hR, gQ, gP, gT, gB⟩ := hrel
    have HS := hid hS
    have HT := hid hT
    have HT0 := hid hT0
    have HX := hid hX
    have HR := hid hR
    clear hS hT hT0 hX hR
    rcases Nat.eq_zero_or_pos k with hk0 | hk0
    ·subst hk0
     have hE : sumL T K = x / y /\ sumL S (n + 1) / 2 ^ s = x % y := by
      have h1 := HX.out
      have h2 := HR.out
      rw [bp_zero, Nat.mul_one] at h2
      rw [<- HX2.out, <- HP.out] at h1
      rw [<- HP.out] at h2
      exact long_end Hy0.out h1 h2
     have hS2 : sumL S (n + 1) = sumL S m := by
      have h2 := HR.out
      rw [bp_zero, Nat.mul_one] at h2
      have hmn := Hmn.out
      exact sum_cut (by omega) (zero_above (k := m) (Nat.lt_trans h2 HP1.out))
     rw [hS2] at hE
     have HT1 := hid (fun w' (h : Row w' t 100 K T) => trim_row t K K K T w' h (Nat.le_refl _) (Nat.le_refl _) (by have := HK.out; omega))
     have hmn := Hmn.out
     have HT2 := hid (fun w' (h : Row w' p 100 (n + 1) S) => trim_row p m (n + 1) (n + 1) S w' h (by omega) (by omega) (by omega))
     have HA2 := hid (fun w' (h : Row w' p 100 (n + 1) S) => am_row (n := m) (c := n + 1) h (by omega) (by omega) (fun i hi => HS.out i (by omega)))
     have HA1 := hid (fun w' (h : Row w' t 100 K T) => am_row (n := K) (c := K) h (Nat.le_refl _) (Nat.le_refl _) HT.out)
     have HnS := hid (nl_sum (S := S) (n := m) fun i hi => HS.out i (by omega))
     have HE := hid hE
     have bs1 : (m : Int) <= (n : Int) + 1 := by omega
     have hs6 := Hs64.out
     clear hE hS2 hmn
     go_wp2_with fail
     refine opU (S := (fun wq => Row wq p 100 (n + 1) S /\ Row wq t 100 K T /\ Below w.heap.size w wq)) (req := (fun _ => true)) (fun _ _ h hu => ⟨(h.1).up hu, (h.2.1).up hu, below_up (h.2.2) hu⟩) ⟨gRow, gRow, gUp⟩ (fun wS hSS hSu => ?_)
     have ⟨hS1, hS2, hSB⟩ := hSS
     clear gQ gP gT gB
     refine tkP 0 (some 238) hSu ?_
     refine tkC 1 (some 239) rfl hSu hSS ?_ (hy := fun w' hSw => (HT1.out _ hSw.2.1))
     refine tkP 2 (some 240) hSu ?_
     refine tkP 3 (some 241) hSu ?_
     refine tkP 4 (some 242) hSu ?_
     refine tkC 5 (some 243) rfl hSu hSS ?_ (hy := fun w' hSw => (HT2.out _ hSw.1))
     refine tkP 6 (some 244) hSu ?_
     refine wpAnyU_callE (i := 7) (d := (some 245)) rfl rfl (by kernel_rfl) (by rfl) hSu.out (fun w' => by go_simp) (fun w' hw' => right_am (HA2.out _ (hS1.up hw')) (by rw [HnS.out]; exact Nat.lt_of_le_of_lt (lenL_le S m) (by omega)) hs6) fun vR wR hwR hRR => ?_
     try simp only [Act.put, pu1, pu2, pu3]
     obtain ⟨a1, c1, rfl⟩ := hRR.shape
     refine tkP 8 (some 4) hSu ?_
     refine tkP 9 (some 5) hSu ?_
     refine wpAnyU_done (by kernel_rfl) (fun wF huE => ?_) _
     have gA1 := HA1.out _ ((hS2.up hwR).up huE)
     have gA2 := hRR.up huE
     have gB := below_up (below_up hSB hwR) huE
     clear hS1 hS2 hSB hSS hwR hRR huE
     go_wp2_with fail
     go_ret2
     refine ⟨gB, _, _, _, _, _, _, rfl, ?_, ?_⟩
     ·rw [<- HE.out.1]; exact gA1
     ·rw [<- HE.out.2]; exact gA2
    ·obtain ⟨i, rfl⟩ : ∃ i, k = i + 1 := ⟨k - 1, by omega⟩
     rw [show ((i + 1 : Nat) : Int) - 1 = (i : Nat) by omega]
     have hmn := Hmn.out
     have hkk := HK.out
     have hm1 := Hm1.out
     have hm2 := Hm2.out
     have him : i + m < n + 1 := by omega
     have hiK : i < K := by omega
     have him1 : i + m1 < n + 1 := by omega
     have him2 : i + m2 < n + 1 := by omega
     have e1 : IntKind.i64.wrap ((i : Int) + (m : Int)) = (i : Int) + (m : Int) := IntWalk.i64_in _ (by omega)
     have e2 : IntKind.i64.wrap ((i : Int) + (m : Int) - 1) = (i : Int) + (m1 : Int) := by rw [IntWalk.i64_in _ (by omega)]; omega
     have e3 : IntKind.i64.wrap ((i : Int) + (m : Int) - 2) = (i : Int) + (m2 : Int) := by rw [IntWalk.i64_in _ (by omega)]; omega
     have e4 : IntKind.i64.wrap ((m : Int) - 1) = (m1 : Int) := by rw [IntWalk.i64_in _ (by omega)]; omega
     have e5 : IntKind.i64.wrap ((m : Int) - 2) = (m2 : Int) := by rw [IntWalk.i64_in _ (by omega)]; omega
     have f1 : ((i : Int) + (m : Int)).toNat = i + m := by omega
     have f2 : ((i : Int) + (m1 : Int)).toNat = i + m1 := by omega
     have f3 : ((i : Int) + (m2 : Int)).toNat = i + m2 := by omega
     have j1 : (i : Int) + (m : Int) < (n : Int) + 1 := by omega
     have j2 : (0 : Int) <= (i : Int) + (m : Int) := by omega
     have j3 : (i : Int) + (m1 : Int) < (n : Int) + 1 := by omega
     have j4 : (0 : Int) <= (i : Int) + (m1 : Int) := by omega
     have j5 : (i : Int) + (m2 : Int) < (n : Int) + 1 := by omega
     have j6 : (0 : Int) <= (i : Int) + (m2 : Int) := by omega
     have j7 : (m1 : Int) < (m : Int) := by omega
     have j8 : (m2 : Int) < (m : Int) := by omega
     have j9 : m1 < m := by omega
     have jA : m2 < m := by omega
     have HG3 := hid (fun w' => guess3_any (S (i + m)) (S (i + m1)) (S (i + m2)) (limb P m1) (limb P m2) (HS.out _ him) (HS.out _ him1) (HS.out _ him2) (limb_lt _ _) (limb_lt _ _) w')
     have c1 := gP.cell (i + m) him
     have c2 := gP.cell (i + m1) him1
     have c3 := gP.cell (i + m2) him2
     have c4 := gQ.cell m1 (by omega)
     have c5 := gQ.cell m2 (by omega)
     clear hmn hkk hm1 hm2
     go_wp2_with fail
     refine opU (S := (fun wq => Row wq q 100 (m + 1) (limb P) /\ Row wq p 100 (n + 1) S /\ Row wq t 100 K T /\ wq.cell? ⟨p, i + m, none⟩ = some (.int .u64 (S (i + m) : Nat)) /\ wq.cell? ⟨p, i + m1, none⟩ = some (.int .u64 (S (i + m1) : Nat)) /\ wq.cell? ⟨p, i + m2, none⟩ = some (.int .u64 (S (i + m2) : Nat)) /\ wq.cell? ⟨q, m1, none⟩ = some (.int .u64 (limb P m1 : Nat)) /\ wq.cell? ⟨q, m2, none⟩ = some (.int .u64 (limb P m2 : Nat)) /\ Below w.heap.size w wq)) (req := (fun _ => true)) (fun _ _ h hu => ⟨(h.1).up hu, (h.2.1).up hu, (h.2.2.1).up hu, hu.cell (h.2.2.2.1), hu.cell (h.2.2.2.2.1), hu.cell (h.2.2.2.2.2.1), hu.cell (h.2.2.2.2.2.2.1), hu.cell (h.2.2.2.2.2.2.2.1), below_up (h.2.2.2.2.2.2.2.2) hu⟩) ⟨gRow, gRow, gRow, (by first | assumption | (apply Blk.cell; exact gBlk; exact rfl)), (by first | assumption | (apply Blk.cell; exact gBlk; exact rfl)), (by first | assumption | (apply Blk.cell; exact gBlk; exact rfl)), (by first | assumption | (apply Blk.cell; exact gBlk; exact rfl)), (by first | assumption | (apply Blk.cell; exact gBlk; exact rfl)), gUp⟩ (fun wS hSS hSu => ?_)
     have ⟨hS1, hS2, hS3, hS4, hS5, hS6, hS7, hS8, hSB⟩ := hSS
     clear gQ gP gT gB c1 c2 c3 c4 c5
     refine tkP 0 (some 98) hSu ?_
     refine tkP 1 (some 99) hSu ?_
     refine tkP 2 (some 100) hSu ?_
     refine tkP 3 (some 101) hSu ?_
     refine tkP 4 (some 102) hSu ?_
     refine tkT 5 (some 103) rfl hSu hSS ?_ (hy := fun w' hSw => by ((try dsimp only at hSw); (try obtain ⟨_, _, _, _, _, _, _, _, _⟩ := hSw); go_simp; (try exact rfl)))
     refine tkP 6 (some 104) hSu ?_
     refine tkP 7 (some 105) hSu ?_
     refine tkP 8 (some 106) hSu ?_
     refine tkP 9 (some 107) hSu ?_
     refine tkP 10 (some 108) hSu ?_
     refine tkP 11 (some 109) hSu ?_
     refine tkT 12 (some 110) rfl hSu hSS ?_ (hy := fun w' hSw => by ((try dsimp only at hSw); (try obtain ⟨_, _, _, _, _, _, _, _, _⟩ := hSw); go_simp; (try exact rfl)))
     refine tkP 13 (some 111) hSu ?_
     refine tkP 14 (some 112) hSu ?_
     refine tkP 15 (some 113) hSu ?_
     refine tkP 16 (some 114) hSu ?_
     refine tkP 17 (some 115) hSu ?_
     refine tkP 18 (some 116) hSu ?_
     refine tkT 19 (some 117) rfl hSu hSS ?_ (hy := fun w' hSw => by ((try dsimp only at hSw); (try obtain ⟨_, _, _, _, _, _, _, _, _⟩ := hSw); go_simp; (try exact rfl)))
     refine tkP 20 (some 118) hSu ?_
     refine tkP 21 (some 119) hSu ?_
     refine tkP 22 (some 120) hSu ?_
     refine tkP 23 (some 121) hSu ?_
     refine tkT 24 (some 122) rfl hSu hSS ?_ (hy := fun w' hSw => by ((try dsimp only at hSw); (try obtain ⟨_, _, _, _, _, _, _, _, _⟩ := hSw); go_simp; (try exact rfl)))
     refine tkP 25 (some 123) hSu ?_
     refine tkP 26 (some 124) hSu ?_
     refine tkP 27 (some 125) hSu ?_
     refine tkP 28 (some 126) hSu ?_
     refine tkT 29 (some 127) rfl hSu hSS ?_ (hy := fun w' hSw => by ((try dsimp only at hSw); (try obtain ⟨_, _, _, _, _, _, _, _, _⟩ := hSw); go_simp; (try exact rfl)))
     refine wpAnyU_callE (i := 30) (d := (some 128)) rfl rfl (by kernel_rfl) (by rfl) hSu.out (fun w' => by go_simp) (fun w' hw' => (HG3.out _)) fun vG wG hwG hRG => ?_
     try simp only [Act.put, pu1, pu2, pu3]
     obtain ⟨g, rfl, hgl, hG⟩ := hRG
     refine tkP 31 (some 15) hSu ?_
     refine wpAnyU_done (by kernel_rfl) (fun wF huE => ?_) _
     have gQ := (hS1.up hwG).up huE
     have gP := (hS2.up hwG).up huE
     have gT := (hS3.up hwG).up huE
     have gB := below_up (below_up hSB hwG) huE
     have Hgl := hid hgl
     have HG := hid hG
     clear hS1 hS2 hS3 hS4 hS5 hS6 hS7 hS8 hSB hSS hwG huE hgl hG HG3 e2 e3 e4 e5 f2 f3 j3 j4 j5 j6 j7 j8
     go_wp2_with fail
     obtain ⟨W, hW⟩ : ∃ W, sumL (fun j => S (i + j)) (m + 1) = W := ⟨_, rfl⟩
     have HW := hid hW
     have hq0 : W / P <= g := over_guess Hm1.out Hm2.out him HS.out HPm.out HP0.out HR.out hW HG.out
     have Hq0 := hid hq0
     clear hW hq0 HG
     go_loopw [16, 17, 18] (fun tc tb ti wr => ∃ (k c b : Nat) (S1 : Nat -> Nat), k <= m /\ tc = .int .u64 (c : Nat) /\ tb = .int .u64 (b : Nat) /\ ti = .int .i64 (k : Nat) /\ c < 18446744073709551616 /\ b <= 1 /\
        sumL (fun j => S1 (i + j)) k + g * sumL (limb P) k = sumL (fun j => S (i + j)) k + (b + c) * bp k /\ (∀ j, j < i \/ i + k <= j -> S1 j = S j) /\ (∀ j, j < n + 1 -> S1 j < 18446744073709551616) /\
        Row wr q 100 (m + 1) (limb P) /\ Row wr p 100 (n + 1) S1 /\ Row wr t 100 K T /\ Below w.heap.size w wr)
      (fun _ _ ti _ => m - (intOf ti).toNat)
     case atStart => exact ⟨0, 0, 0, S, by omega, rfl, rfl, rfl, by omega, by omega, by simp [sumL_zero], fun _ _ => rfl, HS.out, gQ, gP, gT, gB⟩
     case round =>
      clear gQ gP gT gB
      obtain ⟨k, c, b, S1, hk2, rfl, rfl, rfl, hc, hb, hsum, ho, hl, gQ, gP, gT, gB⟩ := hrel
      have Hsum := hid hsum
      have Ho := hid ho
      have Hl := hid hl
      clear hsum ho hl
      have hgl := Hgl.out
      by_cases hlt : k < m
      ·have hVk := limb_lt P k
       have hik : i + k < n + 1 := by omega
       have e2 : IntKind.i64.wrap ((i : Int) + (k : Int)) = (i : Int) + (k : Int) := IntWalk.i64_in _ (by omega)
       have e3 : IntKind.i64.wrap ((k : Int) + 1) = (k : Int) + 1 := IntWalk.i64_in _ (by omega)
       have f2 : ((i : Int) + (k : Int)).toNat = i + k := by omega
       have j3 : (i : Int) + (k : Int) < (n : Int) + 1 := by omega
       have j4 : (0 : Int) <= (i : Int) + (k : Int) := by omega
       have hcy := gQ.cell k (by omega)
       have hcx := gP.cell (i + k) hik
       have hfx := gP.frozen (i + k)
       obtain ⟨h, eh⟩ : ∃ h, h = g * limb P k / 18446744073709551616 := ⟨_, rfl⟩
       obtain ⟨l, el⟩ : ∃ l, l = g * limb P k % 18446744073709551616 := ⟨_, rfl⟩
       have HM : Hid (∀ w, Calls Tryz.prog 91 #[.int .u64 (g : Nat), .int .u64 (limb P k : Nat)] w fun e w' => e = .returned (.tuple #[.int .u64 (h : Nat), .int .u64 (l : Nat)]) /\ w' = w) := hid (fun w => (Tryz.bits_Mul64 g (limb P k) hgl hVk w).mono (by rintro e w' ⟨rfl, rfl⟩; exact ⟨by rw [eh, el], rfl⟩))
       obtain ⟨l2, c2, HA, e6, e7⟩ : ∃ r c' : Nat, (∀ w, (callFunc 89 #[.int .u64 (l : Nat), .int .u64 (c : Nat), .int .u64 0]).run Tryz.prog w = .ok (.value (.tuple #[.int .u64 (r : Nat), .int .u64 (c' : Nat)])) w) /\
        r = (l + c + 0) % 18446744073709551616 /\ c' = (l + c + 0) / 18446744073709551616 := ⟨_, _, run_add l c 0 (by omega), rfl, rfl⟩
       obtain ⟨g1, g2, g3, g4, g5, g6⟩ := mul_step hgl hVk hc eh el e6 e7
       obtain ⟨cn, ecn⟩ : ∃ cn, cn = h + c2 := ⟨_, rfl⟩
       rw [<- ecn] at g1 g2
       have w1 : IntKind.u64.wrap ((h : Int) + c2) = (cn : Nat) := by rw [IntKind.wrap_u64]; omega
       have HG2 := hid g2
       clear eh el e6 e7 g2 ecn
       have hSk := Hl.out (i + k) hik
       obtain ⟨r, b', HSub, hr, hrl, hb1⟩ : ∃ r b' : Nat, (∀ w, (callFunc 90 #[.int .u64 (S1 (i + k) : Nat), .int .u64 (l2 : Nat), .int .u64 (b : Nat)]).run Tryz.prog w = .ok (.value (.tuple #[.int .u64 (r : Nat), .int .u64 (b' : Nat)])) w) /\
          Hid (r + l2 + b = S1 (i + k) + b' * 18446744073709551616) /\ r < 18446744073709551616 /\ b' <= 1 :=
        ⟨_, _, run_sub (S1 (i + k)) l2 b hb, hid (by split <;> omega), Nat.mod_lt _ (by decide), by split <;> omega⟩
       have gP1 := gP.set (i + k) r
       have gQ1 := gQ.other ⟨p, i + k, none⟩ (.int .u64 (r : Nat)) (show q ≠ p by omega)
       have gT1 := gT.other ⟨p, i + k, none⟩ (.int .u64 (r : Nat)) (show t ≠ p by omega)
       have gB1 := gB.setCell (p := ⟨p, i + k, none⟩) (show w.heap.size <= p by omega) (.int .u64 (r : Nat))
       go_wp2_with (first | (go_at_call 91; (with_reducible refine (HM.out _).mono ?_); rintro e wM ⟨rfl, rfl⟩))
       clear e1 f1 j1 j2 e2 e3 f2 j3 j4 w1 hcy hcx hfx HM HA HSub gQ gP gT gB
       go_roundw
       case rel =>
        refine ⟨k + 1, cn, b', upd S1 (i + k) r, by omega, rfl, rfl, by go_num, g1, hb1, ?_, fun j hj => by rw [upd_other _ _ _ (by omega)]; exact Ho.out j (by omega), upd_lt Hl.out hrl, gQ1, gP1, gT1, gB1⟩
        rw [sum_shift_upd, sumL_succ (limb P), sumL_succ (fun j => S (i + j)), bp_succ, Nat.mul_add, <- Nat.mul_assoc]
        have h2 := hr.out
        rw [Ho.out (i + k) (by omega)] at h2
        exact off_step Hsum.out HG2.out h2
       case measure => simp [intOf] <;> omega
      ·obtain rfl : m = k := by omega
       clear hlt
       have hcx := gP.cell (i + m) him
       have hfx := gP.frozen (i + m)
       have hSk := Hl.out (i + m) him
       obtain ⟨r, b', HSub, hr, hrl, hb1⟩ : ∃ r b' : Nat, (∀ w, (callFunc 90 #[.int .u64 (S1 (i + m) : Nat), .int .u64 (c : Nat), .int .u64 (b : Nat)]).run Tryz.prog w = .ok (.value (.tuple #[.int .u64 (r : Nat), .int .u64 (b' : Nat)])) w) /\
          Hid (r + c + b = S1 (i + m) + b' * 18446744073709551616) /\ r < 18446744073709551616 /\ b' <= 1 :=
        ⟨_, _, run_sub (S1 (i + m)) c b hb, hid (by split <;> omega), Nat.mod_lt _ (by decide), by split <;> omega⟩
       have gP1 := gP.set (i + m) r
       have gQ1 := gQ.other ⟨p, i + m, none⟩ (.int .u64 (r : Nat)) (show q ≠ p by omega)
       have gT1 := gT.other ⟨p, i + m, none⟩ (.int .u64 (r : Nat)) (show t ≠ p by omega)
       have gB1 := gB.setCell (p := ⟨p, i + m, none⟩) (show w.heap.size <= p by omega) (.int .u64 (r : Nat))
       have he : sumL (fun j => upd S1 (i + m) r (i + j)) (m + 1) + g * P = W + b' * bp (m + 1) := by
        have h2 := hr.out
        rw [Ho.out (i + m) (by omega)] at h2
        have h3 := off_last Hsum.out h2
        rw [HPm.out] at h3
        have h4 := HW.out
        rw [sumL_succ] at h4
        rw [sum_shift_upd, bp_succ, <- h4]
        exact h3
       have ho : ∀ j, j < i \/ i + m < j -> upd S1 (i + m) r j = S j := fun j hj => by rw [upd_other _ _ _ (by omega)]; exact Ho.out j (by omega)
       have He := hid he
       have Ho2 := hid ho
       have Hl2 := hid (upd_lt (k := i + m) Hl.out hrl)
       clear he ho gQ gP gT gB hr Hsum Ho
       go_wp2_with fail
       clear hcx hfx HSub hSk Hl
       generalize upd S1 (i + m) r = S2 at *
       go_loopw [15, 17] (fun tg tb wr => ∃ (g b : Nat) (S1 : Nat -> Nat), tg = .int .u64 (g : Nat) /\ tb = .int .u64 (b : Nat) /\ b <= 1 /\ g < 18446744073709551616 /\ W / P <= g /\ sumL (fun j => S1 (i + j)) (m + 1) + g * P = W + b * bp (m + 1) /\ (∀ j, j < i \/ i + m < j -> S1 j = S j) /\ (∀ j, j < n + 1 -> S1 j < 18446744073709551616) /\
          Row wr q 100 (m + 1) (limb P) /\ Row wr p 100 (n + 1) S1 /\ Row wr t 100 K T /\ Below w.heap.size w wr)
        (fun tg _ _ => (intOf tg).toNat)
       case atStart => exact ⟨g, b', S2, rfl, rfl, hb1, Hgl.out, Hq0.out, He.out, Ho2.out, Hl2.out, gQ1, gP1, gT1, gB1⟩
       case round =>
        clear gQ1 gP1 gT1 gB1 He Ho2 Hl2 Hgl hgl Hq0 hb1 hrl
        obtain ⟨g, b, S1, rfl, rfl, hb, hgl, hq0, he, ho, hl, gQ, gP, gT, gB⟩ := hrel
        have He := hid he
        have Ho := hid ho
        have Hl := hid hl
        have Hq0 := hid hq0
        have Hgl := hid hgl
        clear he ho hl hq0 hgl
        rcases (show b = 0 \/ b = 1 by omega) with rfl | rfl
        ·have he := He.out
         rw [Nat.zero_mul, Nat.add_zero] at he
         obtain ⟨hlt, hgq⟩ := round_end he Hq0.out HP0.out
         have hR3 : sumL S (n + 1) < bp (i + m + 1) := by
          have h0 := HR.out
          have h1 := HP1.out
          have h2 : P * bp (i + 1) <= bp m * bp (i + 1) := Nat.mul_le_mul_right _ (Nat.le_of_lt h1)
          rw [<- bp_add, show m + (i + 1) = i + m + 1 by omega] at h2
          exact Nat.lt_of_lt_of_le h0 h2
         obtain ⟨hX1, hX3⟩ := over_more him hiK HS.out HX.out (HT0.out i (by omega)) hR3 HW.out rfl Ho.out he hlt
         have HX1' := hid hX1
         have HX3 := hid hX3
         have e7 : IntKind.i64.wrap ((i : Int) - 1) = (i : Int) - 1 := IntWalk.i64_in _ (by omega)
         have hi16 : (i : Int) < (K : Int) := by omega
         have hct := gT.cell i hiK
         have hft := gT.frozen i
         have gT1 := gT.set i g
         have gP1 := gP.other ⟨t, i, none⟩ (.int .u64 (g : Nat)) (show p ≠ t by omega)
         have gQ1 := gQ.other ⟨t, i, none⟩ (.int .u64 (g : Nat)) (show q ≠ t by omega)
         have gB1 := gB.setCell (p := ⟨t, i, none⟩) (show w.heap.size <= t by omega) (.int .u64 (g : Nat))
         clear he hlt hgq hR3 hX1 hX3 gQ gP gT gB
         go_wp2_with fail
         clear e1 f1 j1 j2 e7 hi16 hct hft
         go_roundw
         case rel => exact ⟨i, S1, upd T i g, by omega, rfl, Hl.out, upd_lt HT.out Hgl.out, fun j hj => by rw [upd_other _ _ _ (by omega)]; exact HT0.out j (by omega), HX1'.out, HX3.out, gQ1, gP1, gT1, gB1⟩
         case measure => simp [intOf] <;> omega
        ·rw [show ((1 : Nat) : Int) = (1 : Int) from rfl]
         have he := He.out
         rw [Nat.one_mul] at he
         have hW1 := sumL_lt (f := fun j => S1 (i + j)) (k := m + 1) fun j hj => Hl.out _ (by omega)
         obtain ⟨hg1, hq1⟩ := round_more he hW1 HP0.out
         obtain ⟨G, hG⟩ : ∃ G, g - 1 = G := ⟨_, rfl⟩
         rw [hG] at hq1
         have HGg := hid hG
         have HGq := hid hq1
         have HG1 := hid hg1
         have hgl := Hgl.out
         have eg : IntKind.u64.wrap ((g : Int) - 1) = (G : Nat) := by rw [IntKind.wrap_u64]; omega
         have Hhe := hid he
         clear he hW1 hg1 hq1 hG hgl He
         go_wp2_with fail
         clear eg
         go_loopw [22, 23] (fun tc ti wr => ∃ (k c : Nat) (S2 : Nat -> Nat), k <= m /\ tc = .int .u64 (c : Nat) /\ ti = .int .i64 (k : Nat) /\ c <= 1 /\ sumL (fun j => S2 (i + j)) k + c * bp k = sumL (fun j => S1 (i + j)) k + sumL (limb P) k /\ (∀ j, j < i \/ i + k <= j -> S2 j = S1 j) /\ (∀ j, j < n + 1 -> S2 j < 18446744073709551616) /\
            Row wr q 100 (m + 1) (limb P) /\ Row wr p 100 (n + 1) S2 /\ Row wr t 100 K T /\ Below w.heap.size w wr)
          (fun _ ti _ => m - (intOf ti).toNat)
         case atStart => exact ⟨0, 0, S1, by omega, rfl, rfl, by omega, by simp [sumL_zero], fun _ _ => rfl, Hl.out, gQ, gP, gT, gB⟩
         case round =>
          clear gQ gP gT gB
          obtain ⟨k, c, S2, hk3, rfl, rfl, hc, hsum, ho2, hl2, gQ, gP, gT, gB⟩ := hrel
          have Hsum := hid hsum
          have Ho2 := hid ho2
          have Hl2 := hid hl2
          clear hsum ho2 hl2
          by_cases hlt : k < m
          ·have hik : i + k < n + 1 := by omega
           have e2 : IntKind.i64.wrap ((i : Int) + (k : Int)) = (i : Int) + (k : Int) := IntWalk.i64_in _ (by omega)
           have e3 : IntKind.i64.wrap ((k : Int) + 1) = (k : Int) + 1 := IntWalk.i64_in _ (by omega)
           have f2 : ((i : Int) + (k : Int)).toNat = i + k := by omega
           have j3 : (i : Int) + (k : Int) < (n : Int) + 1 := by omega
           have j4 : (0 : Int) <= (i : Int) + (k : Int) := by omega
           have j5 : (k : Int) < (m : Int) := by omega
           have hcy := gQ.cell k (by omega)
           have hcx := gP.cell (i + k) hik
           obtain ⟨r, c', hadd, hr, hrl, hc1⟩ : ∃ r c' : Nat, (∀ w, (callFunc 89 #[.int .u64 (S2 (i + k) : Nat), .int .u64 (limb P k : Nat), .int .u64 (c : Nat)]).run Tryz.prog w = .ok (.value (.tuple #[.int .u64 (r : Nat), .int .u64 (c' : Nat)])) w) /\
              Hid (r + c' * 18446744073709551616 = S2 (i + k) + limb P k + c) /\ r < 18446744073709551616 /\ c' <= 1 :=
            ⟨_, _, run_add (S2 (i + k)) (limb P k) c hc, hid (by omega), Nat.mod_lt _ (by decide), by have := Hl2.out (i + k) hik; have := limb_lt P k; omega⟩
           go_wp2_with fail
           refine opU (S := (fun wq => Row wq q 100 (m + 1) (limb P) /\ Row wq p 100 (n + 1) S2 /\ Row wq t 100 K T /\ wq.cell? ⟨p, i + k, none⟩ = some (.int .u64 (S2 (i + k) : Nat)) /\ wq.cell? ⟨q, k, none⟩ = some (.int .u64 (limb P k : Nat)) /\ Below w.heap.size w wq)) (req := (fun j => j != 20)) (fun _ _ h hu => ⟨(h.1).up hu, (h.2.1).up hu, (h.2.2.1).up hu, hu.cell (h.2.2.2.1), hu.cell (h.2.2.2.2.1), below_up (h.2.2.2.2.2) hu⟩) ⟨gRow, gRow, gRow, (by first | assumption | (apply Blk.cell; exact gBlk; exact rfl)), (by first | assumption | (apply Blk.cell; exact gBlk; exact rfl)), gUp⟩ (fun wS hSS hSu => ?_)
           have ⟨hS1, hS2, hS3, hS4, hS5, hSB⟩ := hSS
           clear hcx hcy gQ gP gT gB
           refine tkP 0 (some 196) hSu ?_
           refine tkP 1 (some 197) hSu ?_
           refine tkP 2 (some 198) hSu ?_
           refine tkP 3 (some 199) hSu ?_
           refine tkP 4 (some 200) hSu ?_
           refine tkP 5 (some 201) hSu ?_
           refine tkP 6 (some 202) hSu ?_
           refine tkP 7 (some 203) hSu ?_
           refine tkP 8 (some 204) hSu ?_
           refine tkT 9 (some 205) rfl hSu hSS ?_ (hy := fun w' hSw => by ((try dsimp only at hSw); (try obtain ⟨_, _, _, _, _, _⟩ := hSw); go_simp; (try exact rfl)))
           refine tkP 10 (some 206) hSu ?_
           refine tkP 11 (some 207) hSu ?_
           refine tkP 12 (some 208) hSu ?_
           refine tkT 13 (some 209) rfl hSu hSS ?_ (hy := fun w' hSw => by ((try dsimp only at hSw); (try obtain ⟨_, _, _, _, _, _⟩ := hSw); go_simp; (try exact rfl)))
           refine tkP 14 (some 210) hSu ?_
           refine tkP 15 (some 211) hSu ?_
           refine tkP 16 (some 195) hSu ?_
           refine tkP 17 (some 212) hSu ?_
           refine tkP 18 (some 213) hSu ?_
           refine tkP 19 (some 214) hSu ?_
           refine wpAnyU_one (i := 20) rfl (by kernel_rfl) (by rfl) fun w1 hw1 => ?_
           have hcW := (hS2.up hw1).cell (i+k) (by omega)
           have hfW := (hS2.up hw1).frozen (i+k)
           go_simp
           clear hcW hfW
           refine tkP 21 (some 22) hSu ?_
           refine wpAnyU_done (by kernel_rfl) (fun wF huE => ?_) _
           have gQ := ((hS1.up hw1).other ⟨p, i + k, none⟩ (.int .u64 (r : Nat)) (show q ≠ p by omega)).up huE
           have gP := ((hS2.up hw1).set (i + k) r).up huE
           have gT := ((hS3.up hw1).other ⟨p, i + k, none⟩ (.int .u64 (r : Nat)) (show t ≠ p by omega)).up huE
           have gB := below_up ((below_up hSB hw1).setCell (p := ⟨p, i + k, none⟩) (show w.heap.size <= p by omega) (.int .u64 (r : Nat))) huE
           clear hS1 hS2 hS3 hS4 hS5 hSB hSS hw1 huE e2 f2 j3 j4 j5 hadd
           go_wp2_with fail
           clear e3 e1 f1 j1 j2
           go_roundw
           case rel =>
            refine ⟨k + 1, c', upd S2 (i + k) r, by omega, rfl, by go_num, hc1, ?_, fun j hj => by rw [upd_other _ _ _ (by omega)]; exact Ho2.out j (by omega), upd_lt Hl2.out hrl, gQ, gP, gT, gB⟩
            rw [sum_shift_upd, sumL_succ (limb P), sumL_succ (fun j => S1 (i + j)), bp_succ]
            have h2 := hr.out
            rw [Ho2.out (i + k) (by omega)] at h2
            exact back_step Hsum.out h2
           case measure => simp [intOf] <;> omega
          ·obtain rfl : m = k := by omega
           clear hlt
           have hcx := gP.cell (i + m) him
           have hfx := gP.frozen (i + m)
           obtain ⟨r, c', hadd, hr, hrl, hc1⟩ : ∃ r c' : Nat, (∀ w, (callFunc 89 #[.int .u64 (S2 (i + m) : Nat), .int .u64 0, .int .u64 (c : Nat)]).run Tryz.prog w = .ok (.value (.tuple #[.int .u64 (r : Nat), .int .u64 (c' : Nat)])) w) /\
              Hid (r + c' * 18446744073709551616 = S2 (i + m) + 0 + c) /\ r < 18446744073709551616 /\ c' <= 1 := by
            have h := run_add (S2 (i + m)) 0 c hc
            simp only [show ((0 : Nat) : Int) = 0 from rfl] at h
            exact ⟨_, _, h, hid (by omega), Nat.mod_lt _ (by decide), by have := Hl2.out (i + m) him; omega⟩
           have gP1 := gP.set (i + m) r
           have gQ1 := gQ.other ⟨p, i + m, none⟩ (.int .u64 (r : Nat)) (show q ≠ p by omega)
           have gT1 := gT.other ⟨p, i + m, none⟩ (.int .u64 (r : Nat)) (show t ≠ p by omega)
           have gB1 := gB.setCell (p := ⟨p, i + m, none⟩) (show w.heap.size <= p by omega) (.int .u64 (r : Nat))
           have h3 : sumL (fun j => upd S2 (i + m) r (i + j)) (m + 1) + c' * bp (m + 1) = sumL (fun j => S1 (i + j)) (m + 1) + P := by
            have h2 := hr.out
            rw [Ho2.out (i + m) (by omega)] at h2
            have h4 := back_step (V := 0) Hsum.out h2
            rw [Nat.zero_mul, Nat.add_zero, HPm.out] at h4
            rw [sum_shift_upd, sumL_succ (fun j => S1 (i + j)), bp_succ]
            exact h4
           have h5 := round_next Hhe.out h3 HG1.out hc1
           rw [HGg.out] at h5
           obtain ⟨bn, hbn⟩ : ∃ bn, 1 - c' = bn := ⟨_, rfl⟩
           rw [hbn] at h5
           have ec : IntKind.u64.wrap (1 - (c' : Int)) = (bn : Nat) := by rw [IntKind.wrap_u64]; omega
           have H5 := hid h5
           have Ho3 : Hid (∀ j, j < i \/ i + m < j -> upd S2 (i + m) r j = S j) := hid fun j hj => by rw [upd_other _ _ _ (by omega), Ho2.out j (by omega)]; exact Ho.out j hj
           have Hl3 := hid (upd_lt (k := i + m) Hl2.out hrl)
           have hb3 : bn <= 1 := by omega
           clear h3 h5 hbn gQ gP gT gB hr Hsum
           go_wp2_with fail
           clear e1 f1 j1 j2 ec hcx hfx hadd
           go_roundw
           case rel => exact ⟨G, bn, upd S2 (i + m) r, rfl, rfl, hb3, by have := Hgl.out; have := HGg.out; omega, HGq.out, H5.out, Ho3.out, Hl3.out, gQ1, gP1, gT1, gB1⟩
           case measure => have := HGg.out; have := HG1.out; simp [intOf] <;> omega
theorem over_any {x y : Nat} {va vb : Value} {w : World} (ha : Am w va x) (hb : Am w vb y) (hx : nl x < 50000) (hyn : nl y < 50000) (h0 : 0 < y) :
   Calls Tryz.prog 88 #[va, vb] w fun e w' => Up w w' /\ ∃ a n c b m d, e = .returned (.tuple #[.slice a n c, .slice b m d]) /\ Am w' (.slice a n c) (x / y) /\ Am w' (.slice b m d) (x % y) := by
 rcases (show nl y = 1 \/ 2 <= nl y by have := nl_pos h0; omega) with h1 | h2
 ·exact over_am ha hb (by omega) h1
 ·by_cases hlt : x < y
  ·obtain ⟨a, ca, rfl, hca1, hca0⟩ := ha.open
   obtain ⟨b, cb, rfl, hcb1, hcb0⟩ := hb.open
   have HC := hid (fun w' (h : Up w w') => cmp_am (ha.up h) (hb.up h) (by omega) (by omega))
   have hA := hid ha
   have e1 : x / y = 0 := Nat.div_eq_of_lt hlt
   have e2 : x % y = x := Nat.mod_eq_of_lt hlt
   have d1 : decide (ordZ x y < 0) = true := by unfold ordZ; rw [if_pos hlt]; rfl
   rw [e1, e2]
   clear ha hb e1 e2 hca0 hcb0 h2
   go_enter Tryz.func88, Tryz.ntmps88
   go_wp2_with (first | (go_at_call 61; (with_reducible refine (HC.out _ gUp).mono ?_); rintro e wC ⟨rfl, huC⟩))
   go_ret2
   exact ⟨gUp, _, _, _, _, _, _, rfl, am_nil _, hA.out.up huC⟩
  ·exact over_long ha hb hx (by omega) h2
set_option maxHeartbeats 1000000 in
theorem div_pm2 (p q : Bool) (X Y : Nat) (a b : Option Addr) (ca cb : Nat) (w : World) (hA : Am w (.slice a (nl X) ca) X) (hB : Am w (.slice b (nl Y) cb) Y) (hx : nl X < 50000) (hyn : nl Y < 50000) (hy : 0 < Y) :
   Calls Tryz.prog 59 #[.agg #[.bool p, .slice a (nl X) ca], .agg #[.bool q, .slice b (nl Y) cb]] w fun e w' => Up w w' /\ ∃ b1 a1 n1 c1 b2 a2 n2 c2, e = .returned (.tuple #[.agg #[.bool b1, .slice a1 n1 c1], .agg #[.bool b2, .slice a2 n2 c2]]) /\ Big w' (.agg #[.bool b1, .slice a1 n1 c1]) ((pm p X).tdiv (pm q Y)) /\ Big w' (.agg #[.bool b2, .slice a2 n2 c2]) ((pm p X).tmod (pm q Y)) := by
 rw [pm_quo, pm_rest]
 have HO := hid (fun w' (h : Up w w') => over_any (hA.up h) (hB.up h) hx hyn hy)
 clear hy hA hB
 generalize nl X = n at *
 generalize nl Y = m at *
 go_enter Tryz.func59, Tryz.ntmps59
 go_wp2_with (first | (go_at_call 88; (with_reducible refine (HO.out _ gUp).mono ?_); rintro e wO ⟨huO, a1, n1, c1, a2, n2, c2, rfl, hQ, hR⟩))
 obtain ⟨a1', c1', he1⟩ := hQ.shape
 obtain ⟨rfl, rfl, rfl⟩ : a1 = a1' /\ n1 = nl (X / Y) /\ c1 = c1' := by simpa using he1
 obtain ⟨a2', c2', he2⟩ := hR.shape
 obtain ⟨rfl, rfl, rfl⟩ : a2 = a2' /\ n2 = nl (X % Y) /\ c2 = c2' := by simpa using he2
 clear he1 he2
 refine opU (S := (fun wq => Blk wq (w.heap.size + 1 + 1) 66 #[.bool false, .slice none 0 0] /\ Blk wq (w.heap.size + 1 + 1 + 1) 66 #[.bool false, .slice none 0 0] /\ wq.cell? ⟨w.heap.size, 0, none⟩ = some (.bool p) /\ wq.cell? ⟨w.heap.size + 1, 0, none⟩ = some (.bool q) /\ Am wq (.slice a1 (nl (X / Y)) c1) (X / Y) /\ Am wq (.slice a2 (nl (X % Y)) c2) (X % Y) /\ Below w.heap.size w wq)) (req := (fun j => j != 11 && j != 12)) (fun _ _ h hu => ⟨(h.1).up hu, (h.2.1).up hu, hu.cell (h.2.2.1), hu.cell (h.2.2.2.1), (h.2.2.2.2.1).up hu, (h.2.2.2.2.2.1).up hu, below_up (h.2.2.2.2.2.2) hu⟩) ⟨gBlk, gBlk, (by first | assumption | (apply Blk.cell; exact gBlk; exact rfl)), (by first | assumption | (apply Blk.cell; exact gBlk; exact rfl)), (by (repeat (first | assumption | ((with_reducible apply am_set); exact gBlk) | (with_reducible apply am_alloc) | ((with_reducible apply am_up); assumption))); done), (by (repeat (first | assumption | ((with_reducible apply am_set); exact gBlk) | (with_reducible apply am_alloc) | ((with_reducible apply am_up); assumption))); done), gUp⟩ (fun wS hSS hSu => ?_)
 have ⟨hS1, hS2, hS3, hS4, hS5, hS6, hSB⟩ := hSS
 refine tkP 0 (some 16) hSu ?_
 refine tkT 1 (some 17) rfl hSu hSS ?_ (hy := fun w' hSw => by ((try dsimp only at hSw); (try obtain ⟨_, _, _, _, _, _, _⟩ := hSw); go_simp; (try exact rfl)))
 refine tkP 2 (some 18) hSu ?_
 refine tkT 3 (some 19) rfl hSu hSS ?_ (hy := fun w' hSw => by ((try dsimp only at hSw); (try obtain ⟨_, _, _, _, _, _, _⟩ := hSw); go_simp; (try exact rfl)))
 refine tkP 4 (some 20) hSu ?_
 refine tkP 5 (some 21) hSu ?_
 refine tkC 6 (some 22) rfl hSu hSS ?_ (hy := fun w' hSw => (made_any (!(p == q)) a1 (nl (X / Y)) c1 w'))
 refine tkP 7 (some 23) hSu ?_
 refine tkT 8 (some 24) rfl hSu hSS ?_ (hy := fun w' hSw => by ((try dsimp only at hSw); (try obtain ⟨_, _, _, _, _, _, _⟩ := hSw); go_simp; (try exact rfl)))
 refine tkP 9 (some 25) hSu ?_
 refine tkC 10 (some 26) rfl hSu hSS ?_ (hy := fun w' hSw => (made_any p a2 (nl (X % Y)) c2 w'))
 refine wpAnyU_one (i := 11) rfl (by kernel_rfl) (by rfl) fun w2 hw2 => ?_
 have k1 := hS1.up hw2
 refine wp_stB rfl rfl rfl rfl k1 rfl rfl (one2 _ _ _ _) ?_
 refine ⟨fun h => by simp at h, ?_⟩
 try simp only [Act.put, pu1]
 refine wpAnyU_one (i := 12) rfl (by kernel_rfl) (by rfl) fun w3 hw3 => ?_
 have k2 := ((hS2.up hw2).row_other (#[.bool (!(p == q) && decide (0 < nl (X / Y))), .slice a1 (nl (X / Y)) c1]) (show w.heap.size + 1 + 1 + 1 ≠ w.heap.size + 1 + 1 by omega)).up hw3
 refine wp_stB rfl rfl rfl rfl k2 rfl rfl (one2 _ _ _ _) ?_
 refine ⟨fun h => by simp at h, ?_⟩
 try simp only [Act.put, pu1]
 refine wpAnyU_done (by kernel_rfl) (fun wF huE => ?_) _
 have j1 := ((k1.setRow (#[.bool (!(p == q) && decide (0 < nl (X / Y))), .slice a1 (nl (X / Y)) c1])).up hw3).row_other (#[.bool (p && decide (0 < nl (X % Y))), .slice a2 (nl (X % Y)) c2]) (show w.heap.size + 1 + 1 ≠ w.heap.size + 1 + 1 + 1 by omega)
 have j2 := k2.setRow (#[.bool (p && decide (0 < nl (X % Y))), .slice a2 (nl (X % Y)) c2])
 have gQ := big_made (!(p == q)) (((((hS5.up hw2).setRow (D := (#[.bool (!(p == q) && decide (0 < nl (X / Y))), .slice a1 (nl (X / Y)) c1])) k1).up hw3).setRow (D := (#[.bool (p && decide (0 < nl (X % Y))), .slice a2 (nl (X % Y)) c2])) k2).up huE)
 have gR := big_made p (((((hS6.up hw2).setRow (D := (#[.bool (!(p == q) && decide (0 < nl (X / Y))), .slice a1 (nl (X / Y)) c1])) k1).up hw3).setRow (D := (#[.bool (p && decide (0 < nl (X % Y))), .slice a2 (nl (X % Y)) c2])) k2).up huE)
 have gB := below_up (below_setRow (below_up (below_setRow (below_up hSB hw2) (show w.heap.size <= w.heap.size + 1 + 1 by omega) (#[.bool (!(p == q) && decide (0 < nl (X / Y))), .slice a1 (nl (X / Y)) c1])) hw3) (show w.heap.size <= w.heap.size + 1 + 1 + 1 by omega) (#[.bool (p && decide (0 < nl (X % Y))), .slice a2 (nl (X % Y)) c2])) huE
 have j1' := j1.up huE
 have j2' := j2.up huE
 clear k1 k2 j1 j2 hS1 hS2 hS3 hS4 hS5 hS6 hSB hSS hw2 hw3 huE hQ hR
 go_wp2
 exact bodyPost_ret (resBB rfl rfl rfl j1' j2' rfl rfl) rfl ⟨gB, _, _, _, _, _, _, _, _, rfl, gQ, gR⟩
theorem div_big2 {x y : Int} {va vb : Value} {w : World} (ha : Big w va x) (hb : Big w vb y) (hx : nl x.natAbs < 50000) (hyn : nl y.natAbs < 50000) (hy : 0 < y.natAbs) :
   Calls Tryz.prog 59 #[va, vb] w fun e w' => Up w w' /\ ∃ v, e = .returned v /\ ∃ b1 a1 n1 c1 b2 a2 n2 c2, v = .tuple #[.agg #[.bool b1, .slice a1 n1 c1], .agg #[.bool b2, .slice a2 n2 c2]] /\ Big w' (.agg #[.bool b1, .slice a1 n1 c1]) (x.tdiv y) /\ Big w' (.agg #[.bool b2, .slice a2 n2 c2]) (x.tmod y) := by
 obtain ⟨a, ca, rfl, hA⟩ := ha
 obtain ⟨b, cb, rfl, hB⟩ := hb
 have h := div_pm2 (decide (x < 0)) (decide (y < 0)) x.natAbs y.natAbs a b ca cb w hA hB hx hyn hy
 rw [<- pm_int, <- pm_int] at h
 refine h.mono ?_
 rintro e w' ⟨hu, b1, a1, n1, c1, b2, a2, n2, c2, rfl, h1, h2⟩
 exact ⟨hu, _, rfl, _, _, _, _, _, _, _, _, rfl, h1, h2⟩
set_option linter.unusedSimpArgs false
section
variable {P : Program} {ops : Array Oper} {Q : Exit -> Act -> World -> Prop} {md : Region.Mode}
def relB2 (md : Region.Mode) (ops : Array Oper) (n s1 s2 x : Nat) : Bool :=
 ((List.range ops.size).all fun i => ((ops[i]?).map fun o => o.guard.isNone && (o.after.all fun e => !Region.binds md e || decide (e.on < i)) &&
   (if i = s1 \/ i = s2 then o.dst.isNone else ((o.dst.map fun d => decide (d < n)).getD false) && (List.range ops.size).all fun j => j == i || ((ops[j]?).map fun o' => o'.dst != o.dst).getD true)).getD false) &&
 ((List.range ops.size).all fun j => j == s1 || j == s2 || j == x || waitsU md ops j ops.size s1) && ((List.range ops.size).all fun j => j == s2 || waitsU md ops j ops.size s2) &&
 (decide (x < s1) && decide (s1 < s2) && decide (s2 < ops.size))
theorem relB2_op {n s1 s2 x : Nat} (h : relB2 md ops n s1 s2 x = true) {i : Nat} {o : Oper} (hi : ops[i]? = some o) :
   o.guard = none /\ (∀ e ∈ o.after, Region.binds md e = true -> e.on < i) /\ (i = s1 \/ i = s2 -> o.dst = none) /\
   (i ≠ s1 -> i ≠ s2 -> ∃ d, o.dst = some d /\ d < n /\ ∀ j o', ops[j]? = some o' -> j ≠ i -> o'.dst ≠ some d) := by
 unfold relB2 at h
 simp only [Bool.and_eq_true] at h
 have hlt : i < ops.size := (Array.getElem?_eq_some_iff.1 hi).1
 have h1 := List.all_eq_true.1 h.1.1.1 i (List.mem_range.2 hlt)
 rw [hi] at h1
 simp only [Option.map_some, Option.getD_some, Bool.and_eq_true] at h1
 obtain ⟨⟨h2, h3⟩, h4⟩ := h1
 refine ⟨Option.isNone_iff_eq_none.1 h2, fun e he hb => ?_, fun hs => ?_, fun hs hs' => ?_⟩
 ·have := Array.all_eq_true_iff_forall_mem.1 h3 e he
  simpa [hb] using this
 ·rw [if_pos hs] at h4
  exact Option.isNone_iff_eq_none.1 h4
 ·rw [if_neg (by omega), Bool.and_eq_true] at h4
  cases hd : o.dst with
  | none => rw [hd] at h4; simp at h4
  | some d =>
    rw [hd] at h4
    refine ⟨d, rfl, by simpa using h4.1, fun j o' hj hji => ?_⟩
    have h5 := List.all_eq_true.1 h4.2 j (List.mem_range.2 (Array.getElem?_eq_some_iff.1 hj).1)
    rw [hj] at h5
    simp only [Option.map_some, Option.getD_some, Bool.or_eq_true, beq_iff_eq, bne_iff_ne] at h5
    exact h5.resolve_left hji
theorem relB2_is {n s1 s2 x : Nat} (h : relB2 md ops n s1 s2 x = true) : x < s1 /\ s1 < s2 /\ s2 < ops.size := by
 unfold relB2 at h
 simp only [Bool.and_eq_true, decide_eq_true_eq] at h
 omega
theorem relB2_s1 {n s1 s2 x : Nat} (h : relB2 md ops n s1 s2 x = true) {j : Nat} (hj : j < ops.size) (h1 : j ≠ s1) (h2 : j ≠ s2) (h3 : j ≠ x) : waitsU md ops j ops.size s1 = true := by
 unfold relB2 at h
 simp only [Bool.and_eq_true] at h
 have := List.all_eq_true.1 h.1.1.2 j (List.mem_range.2 hj)
 simpa [h1, h2, h3] using this
theorem relB2_s2 {n s1 s2 x : Nat} (h : relB2 md ops n s1 s2 x = true) {j : Nat} (hj : j < ops.size) (h2 : j ≠ s2) : waitsU md ops j ops.size s2 = true := by
 unfold relB2 at h
 simp only [Bool.and_eq_true] at h
 have := List.all_eq_true.1 h.1.2 j (List.mem_range.2 hj)
 simpa [h2] using this
theorem ready2 {n s1 s2 x : Nat} (hB : relB2 md ops n s1 s2 x = true) {listed : Array Bool} (hs : listed.size = ops.size) : ∀ k, k < ops.size -> listed.getD k true = false -> ∃ i, i ∈ Region.ready md ops listed := by
 intro k
 induction k using Nat.strongRecOn with
 | _ k ih =>
   intro hk hl
   obtain ⟨o, ho⟩ : ∃ o, ops[k]? = some o := ⟨ops[k], Array.getElem?_eq_getElem hk⟩
   obtain ⟨_, h2, _⟩ := relB2_op hB ho
   by_cases hall : ∀ e ∈ o.after, Region.binds md e = true -> listed.getD e.on false = true
   ·exact ⟨k, mem_ready.2 ⟨hl, o, ho, hall⟩⟩
   ·obtain ⟨e, hne⟩ := Classical.not_forall.1 hall
    obtain ⟨he, hne⟩ := Classical.not_imp.1 hne
    obtain ⟨hb, hne⟩ := Classical.not_imp.1 hne
    have hlt := h2 e he hb
    refine ih e.on hlt (by omega) ?_
    have hsz : e.on < listed.size := by omega
    simp [hsz] at hne ⊢
    exact hne
theorem readyT {listed : Array Bool} (h : ∀ j, j < ops.size -> listed.getD j true = true) : Region.ready md ops listed = [] := by
 cases hrd : Region.ready md ops listed with
 | nil => rfl
 | cons k l =>
   obtain ⟨h1, ok, hok, _⟩ := mem_ready.1 (show k ∈ Region.ready md ops listed by rw [hrd]; exact List.mem_cons_self)
   rw [h k (Array.getElem?_eq_some_iff.1 hok).1] at h1
   cases h1
theorem wpAny_done {fuel : Nat} {listed : Array Bool} {a : Act} {w : World} (h : ∀ j, j < ops.size -> listed.getD j true = true) (hq : Q .normal a w) : wpAny P md ops Q fuel listed a w := by
 cases fuel with
 | zero => exact ⟨readyT h, hq⟩
 | succ f => exact ⟨fun _ => hq, by rw [readyT h]; intro j hj; cases hj⟩
theorem setT {listed : Array Bool} {i : Nat} (hl : listed.size = ops.size) (hi : i < ops.size) {p : Nat -> Prop} (h : ∀ j, j < ops.size -> j ≠ i -> ¬ p j -> listed.getD j true = true) : ∀ j, j < ops.size -> ¬ p j -> (listed.setIfInBounds i true).getD j true = true := fun j hj hp => by
 by_cases e : j = i
 ·subst e
  have h2 : j < listed.size := by omega
  simp [h2]
 ·rw [getD_set_ne true (Ne.symm e)]
  exact h j hj e hp
theorem wpAny_one {n s1 s2 x : Nat} (hB : relB2 md ops n s1 s2 x = true) {fuel : Nat} {listed : Array Bool} {a : Act} {w : World} {i : Nat} {o : Oper} (hl : listed.size = ops.size) (ho : ops[i]? = some o) (h : ∀ j, j < ops.size -> j ≠ i -> listed.getD j true = true) (hi : listed.getD i true = false)
   (hq : Oper.wp P o a w (Q .normal) Q) (hf : 1 <= fuel) : wpAny P md ops Q fuel listed a w := by
 cases fuel with
 | zero => omega
 | succ f =>
   have hlt : i < ops.size := (Array.getElem?_eq_some_iff.1 ho).1
   refine ⟨fun hr => ?_, fun k hk => ?_⟩
   ·obtain ⟨k, hk⟩ := ready2 hB hl i hlt hi
    rw [hr] at hk
    cases hk
   ·obtain ⟨h1, ok, hok, _⟩ := mem_ready.1 hk
    have hkl : k < ops.size := (Array.getElem?_eq_some_iff.1 hok).1
    have e : k = i := by
     by_cases e : k = i
     ·exact e
     ·rw [h k hkl e] at h1; cases h1
    subst e
    have hw : Region.wanted o (yielded ops a.tmps) = true := by simp [Region.wanted, (relB2_op hB ho).1]
    unfold wpOp
    simp only [ho, hw, if_true]
    exact .inl (Oper.wp_mono (fun a' w' hq => wpAny_done (fun j hj => setT (p := fun _ => False) hl hlt (fun j hj hji _ => h j hj hji) j hj id) hq) hq)
structure Twin (P : Program) (ops : Array Oper) (R : Nat -> Value -> World -> Prop) (s1 s2 x p1 p2 : Nat) (d1 d2 : Tmp) : Prop where
 dst : ∀ i o, ops[i]? = some o -> (i = p1 -> o.dst = some d1) /\ (i = p2 -> o.dst = some d2)
 lt : p1 < ops.size /\ p2 < ops.size /\ p1 ≠ p2 /\ p1 ≠ s1 /\ p1 ≠ s2 /\ p1 ≠ x /\ p2 ≠ s1 /\ p2 ≠ s2 /\ p2 ≠ x
 old : ∀ i v w, i = p1 \/ i = p2 -> R i v w -> ∃ b, v = .pointer (some ⟨b, 0, none⟩) /\ b < w.heap.size
 new : ∀ i o ev w, ops[i]? = some o -> i = p1 \/ i = p2 -> ∃ w', (execOp ev o).run P w = .ok (.value (.pointer (some ⟨w.heap.size, 0, none⟩))) w'
theorem wpAny_rel2 {n s1 s2 x p1 p2 : Nat} {d1 d2 : Tmp} {R : Nat -> Value -> World -> Prop} {S : World -> Prop} {a0 : Act} {w0 : World} (hn : a0.tmps.size = n) (hB : relB2 md ops n s1 s2 x = true)
   (hR : ∀ i v w w', R i v w -> Up w w' -> R i v w') (hS : ∀ w w', S w -> Up w w' -> S w') (hT : Twin P ops R s1 s2 x p1 p2 d1 d2)
   (hop : ∀ i o, ops[i]? = some o -> i ≠ s1 -> i ≠ s2 -> ∀ ev w, S w -> RelEv ops md R a0 o ev w -> LeavesR P (R i) w ((execOp ev o).run P w))
   (hfin : ∀ a w, a.tmps.size = a0.tmps.size -> a.defers = a0.defers -> (∀ s, (∀ o' ∈ ops, o'.dst ≠ some s) -> a.tmps[s]? = a0.tmps[s]?) -> (∀ i o d, ops[i]? = some o -> i ≠ s1 -> i ≠ s2 -> i ≠ x -> o.dst = some d -> R i (a.tmps.getD d undef) w) -> a.tmps.getD d1 undef ≠ a.tmps.getD d2 undef -> S w -> Up w0 w ->
    ∀ o1 o2 ox, ops[s1]? = some o1 -> ops[s2]? = some o2 -> ops[x]? = some ox ->
      ((∀ d, ox.dst = some d -> R x (a.tmps.getD d undef) w) -> Oper.wp P o1 a w (fun a1 w1 => Oper.wp P o2 a1 w1 (Q .normal) Q) Q) /\ Oper.wp P o1 a w (fun a1 w1 => Oper.wp P ox a1 w1 (fun a2 w2 => Oper.wp P o2 a2 w2 (Q .normal) Q) Q) Q) :
   ∀ (fuel : Nat) (listed : Array Bool) (a : Act) (w : World), leftU ops.size listed <= fuel -> closedU md ops listed -> listed.getD s1 true = false -> listed.getD s2 true = false -> RelInv ops R a0 listed a w -> (listed.getD p1 true = true -> listed.getD p2 true = true -> a.tmps.getD d1 undef ≠ a.tmps.getD d2 undef) -> S w -> Up w0 w -> wpAny P md ops Q fuel listed a w := by
 obtain ⟨tp1, tp2, tpp, t1a, t1b, t1c, t2a, t2b, t2c⟩ := hT.lt
 obtain ⟨hx1, h12, h2s⟩ := relB2_is hB
 obtain ⟨o1, ho1⟩ : ∃ o, ops[s1]? = some o := ⟨ops[s1], Array.getElem?_eq_getElem (by omega)⟩
 obtain ⟨o2, ho2⟩ : ∃ o, ops[s2]? = some o := ⟨ops[s2], Array.getElem?_eq_getElem (by omega)⟩
 obtain ⟨ox, hox⟩ : ∃ o, ops[x]? = some o := ⟨ops[x], Array.getElem?_eq_getElem (by omega)⟩
 intro fuel
 induction fuel with
 | zero =>
   intro listed a w hf hcl hs1 hs2 hI hJ hSw hu
   have := leftU_zero (listed := listed) (n := ops.size) (by omega) (j := s2) (by omega)
   rw [this] at hs2; cases hs2
 | succ fuel ih =>
   intro listed a w hf hcl hs1 hs2 hI hJ hSw hu
   refine ⟨fun hr => ?_, fun i hi => ?_⟩
   ·obtain ⟨k, hk⟩ := ready2 hB hI.lsize s2 (by omega) hs2
    rw [hr] at hk
    cases hk
   ·obtain ⟨hun, o, ho, hall⟩ := mem_ready.1 hi
    have hlt : i < ops.size := (Array.getElem?_eq_some_iff.1 ho).1
    obtain ⟨hg, _, hdn, hds⟩ := relB2_op hB ho
    have hw : Region.wanted o (yielded ops a.tmps) = true := by simp [Region.wanted, hg]
    have hwt : ∀ j, j < ops.size -> waitsU md ops j ops.size i = true -> listed.getD j true = true := fun j hj hwj => by
     have h1 := waitsU_spec hcl ops.size i o ho hall hwj
     have h2 : j < listed.size := by rw [hI.lsize]; exact hj
     simp [h2] at h1 ⊢
     exact h1
    have hdone : ∀ j oj d, ops[j]? = some oj -> listed.getD j true = true -> oj.dst = some d -> R j (a.tmps.getD d undef) w := fun j oj d hoj hl hd => by
     refine hI.done j oj d hoj ?_ hd
     have h2 : j < listed.size := by rw [hI.lsize]; exact (Array.getElem?_eq_some_iff.1 hoj).1
     simp [h2] at hl ⊢
     exact hl
    unfold wpOp
    simp only [ho, hw, if_true]
    refine .inl ?_
    by_cases hi2 : i = s2
    ·subst hi2
     have := hwt s1 (by omega) (relB2_s2 hB (by omega) (by omega))
     rw [this] at hs1; cases hs1
    ·by_cases hi1 : i = s1
     ·subst hi1
      rw [ho1] at ho
      obtain rfl := Option.some.inj ho
      have hz : ∀ j, j < ops.size -> j ≠ i -> j ≠ s2 -> j ≠ x -> listed.getD j true = true := fun j hj a1 a2 a3 => hwt j hj (relB2_s1 hB hj a1 a2 a3)
      have hF := hfin a w hI.size hI.defers hI.other (fun k ok d hok k1 k2 k3 hd => hdone k ok d hok (hz k (Array.getElem?_eq_some_iff.1 hok).1 k1 k2 k3) hd) (hJ (hz p1 tp1 t1a t1b t1c) (hz p2 tp2 t2a t2b t2c)) hSw hu o1 o2 ox ho1 ho2 hox
      have hlf := leftU_set (n := ops.size) (listed := listed) hlt hun
      have hl1 : (listed.setIfInBounds i true).size = ops.size := by simp [hI.lsize]
      have hs21 : (listed.setIfInBounds i true).getD s2 true = false := by rw [getD_set_ne true hi2]; exact hs2
      have hl2 := leftU_set (n := ops.size) (i := s2) (listed := listed.setIfInBounds i true) (by omega) hs21
      cases hlx : listed.getD x true with
      | true =>
        refine Oper.wp_mono (fun a1 w1 hq => ?_) (hF.1 fun d hd => hdone x ox d hox hlx hd)
        refine wpAny_one hB hl1 ho2 (fun j hj hne => setT (p := fun j => j = s2) hI.lsize hlt (fun j hj a1 a2 => ?_) j hj hne) hs21 hq (by omega)
        by_cases e : j = x
        ·rw [e]; exact hlx
        ·exact hz j hj a1 a2 e
      | false =>
        refine Oper.wp_mono (fun a1 w1 hq => ?_) hF.2
        have hsx : (listed.setIfInBounds i true).getD x true = false := by rw [getD_set_ne true (by omega)]; exact hlx
        obtain ⟨f, rfl⟩ : ∃ f, fuel = f + 1 := ⟨fuel - 1, by omega⟩
        have hcl1 := closedU_set hcl hi
        refine ⟨fun hr => ?_, fun k hk => ?_⟩
        ·obtain ⟨k, hk⟩ := ready2 hB hl1 s2 (by omega) hs21
         rw [hr] at hk
         cases hk
        ·obtain ⟨hkn, ok, hok, hallk⟩ := mem_ready.1 hk
         have hkl : k < ops.size := (Array.getElem?_eq_some_iff.1 hok).1
         have hk2 : k ≠ s2 := by
          rintro rfl
          have h1 := waitsU_spec hcl1 ops.size k ok hok hallk (relB2_s2 hB (j := x) (by omega) (by omega))
          rw [getD_set_ne false (show i ≠ x by omega)] at h1
          have h2 : x < listed.size := by rw [hI.lsize]; omega
          simp [h2] at h1 hlx
          rw [h1] at hlx; cases hlx
         have hki : k ≠ i := by
          rintro rfl
          have h2 : k < listed.size := by rw [hI.lsize]; exact hkl
          simp [h2] at hkn
         have hkx : k = x := by
          by_cases e : k = x
          ·exact e
          ·rw [getD_set_ne true (Ne.symm hki), hz k hkl hki hk2 e] at hkn; cases hkn
         subst hkx
         rw [hox] at hok
         obtain rfl := Option.some.inj hok
         have hwx : Region.wanted ox (yielded ops a1.tmps) = true := by simp [Region.wanted, (relB2_op hB hox).1]
         unfold wpOp
         simp only [hox, hwx, if_true]
         refine .inl (Oper.wp_mono (fun a2 w2 hq2 => ?_) hq)
         have hl3 := leftU_set (n := ops.size) (i := k) (listed := listed.setIfInBounds i true) (by omega) hsx
         have hs22 : ((listed.setIfInBounds i true).setIfInBounds k true).getD s2 true = false := by rw [getD_set_ne true hk2]; exact hs21
         have hl4 := leftU_set (n := ops.size) (i := s2) (listed := (listed.setIfInBounds i true).setIfInBounds k true) (by omega) hs22
         refine wpAny_one hB (by simp [hI.lsize]) ho2 (fun j hj hne => setT (p := fun j => j = s2) hl1 hkl (fun j hj a1 a2 => ?_) j hj hne) hs22 hq2 (by omega)
         exact setT (p := fun j => j = s2 \/ j = k) hI.lsize hlt (fun j hj b1 b2 => hz j hj b1 (fun e => b2 (.inl e)) (fun e => b2 (.inr e))) j hj (fun e => e.elim a2 a1)
     ·obtain ⟨d, hd, hdl, hdd⟩ := hds hi1 hi2
      have hev : RelEv ops md R a0 o a.eval w := by
       refine ⟨fun _ => rfl, fun _ => rfl, fun _ => rfl, fun s hs => ?_, fun j o' d' hj he hd' => ?_⟩
       ·show a.tmps.getD s undef = a0.tmps.getD s undef
        rw [Array.getD_eq_getD_getElem?, Array.getD_eq_getD_getElem?, hI.other s hs]
       ·obtain ⟨e, he, hb, rfl⟩ := he
        exact hI.done e.on o' d' hj (hall e he hb) hd'
      have h1 := hop i o ho hi1 hi2 a.eval w hSw hev
      have hne : ∀ v q c, q < ops.size -> q ≠ i -> (∀ oq, ops[q]? = some oq -> oq.dst = some c) -> (a.put o.dst v).tmps.getD c undef = a.tmps.getD c undef := fun v q c hq hqi hc => by
       have hne : d ≠ c := fun e => hdd q _ (Array.getElem?_eq_getElem hq) hqi (by rw [hc _ (Array.getElem?_eq_getElem hq), e])
       rw [hd, Array.getD_eq_getD_getElem?, Array.getD_eq_getD_getElem?]
       simp [Act.put, hne]
      have hown : ∀ v, (a.put o.dst v).tmps.getD d undef = v := fun v => by
       have hds : d < a.tmps.size := by rw [hI.size, hn]; exact hdl
       rw [hd]
       simp [Act.put, hds]
      have hnext : ∀ v w', R i v w' -> Up w w' -> (i = p1 \/ i = p2 -> v = .pointer (some ⟨w.heap.size, 0, none⟩)) -> wpAny P md ops Q fuel (listed.setIfInBounds i true) (a.put o.dst v) w' := by
       intro v w' hv hu' hvp
       refine ih _ _ _ ?_ (closedU_set hcl hi) ?_ ?_ ?_ ?_ (hS _ _ hSw hu') (hu.trans hu')
       ·have := leftU_set (n := ops.size) hlt hun; omega
       ·rw [getD_set_ne true hi1]; exact hs1
       ·rw [getD_set_ne true hi2]; exact hs2
       ·refine ⟨by rw [hd]; exact hI.defers, by rw [hd]; simp [Act.put, hI.size], by simp [hI.lsize], fun s hs => ?_, fun j o' d' hj hl hd' => ?_⟩
        ·have hne : d ≠ s := by
          rintro rfl
          obtain ⟨hx, hy⟩ := Array.getElem?_eq_some_iff.1 ho
          exact hs o (by rw [<- hy]; exact Array.getElem_mem hx) hd
         rw [<- hI.other s hs, hd]
         simp [Act.put, hne]
        ·by_cases hji : j = i
         ·subst hji
          rw [ho] at hj
          obtain rfl := Option.some.inj hj
          rw [hd] at hd'
          obtain rfl := Option.some.inj hd'
          rw [hown]
          exact hv
         ·rw [getD_set_ne false (Ne.symm hji)] at hl
          rw [hne v j d' (Array.getElem?_eq_some_iff.1 hj).1 hji fun oq hoq => by rw [hj] at hoq; obtain rfl := Option.some.inj hoq; exact hd']
          exact hR j _ _ _ (hI.done j o' d' hj hl hd') hu'
       ·intro l1 l2
        have hold : ∀ q c, q = p1 \/ q = p2 -> q ≠ i -> (∀ oq, ops[q]? = some oq -> oq.dst = some c) -> listed.getD q true = true -> ∃ b, (a.put o.dst v).tmps.getD c undef = .pointer (some ⟨b, 0, none⟩) /\ b < w.heap.size := fun q c hq hqi hc hlq => by
         have hqs : q < ops.size := by rcases hq with rfl | rfl <;> assumption
         rw [hne v q c hqs hqi hc]
         exact hT.old q _ _ hq (hdone q _ c (Array.getElem?_eq_getElem hqs) hlq (hc _ (Array.getElem?_eq_getElem hqs)))
        by_cases e1 : i = p1
        ·subst e1
         rw [getD_set_ne true tpp] at l2
         obtain ⟨b, hb, hlb⟩ := hold p2 d2 (.inr rfl) (Ne.symm tpp) (fun oq hoq => (hT.dst p2 oq hoq).2 rfl) l2
         have hdd1 := (hT.dst i o ho).1 rfl
         rw [hd] at hdd1
         obtain rfl := Option.some.inj hdd1
         rw [hb, hown, hvp (.inl rfl)]
         intro e
         injection e with e; injection e with e; injection e with e
         omega
        ·by_cases e2 : i = p2
         ·subst e2
          rw [getD_set_ne true (Ne.symm tpp)] at l1
          obtain ⟨b, hb, hlb⟩ := hold p1 d1 (.inl rfl) tpp (fun oq hoq => (hT.dst p1 oq hoq).1 rfl) l1
          have hdd2 := (hT.dst i o ho).2 rfl
          rw [hd] at hdd2
          obtain rfl := Option.some.inj hdd2
          rw [hb, hown, hvp (.inr rfl)]
          intro e
          injection e with e; injection e with e; injection e with e
          omega
         ·rw [getD_set_ne true e1] at l1
          rw [getD_set_ne true e2] at l2
          rw [hne v p1 d1 tp1 (Ne.symm e1) fun oq hoq => (hT.dst p1 oq hoq).1 rfl, hne v p2 d2 tp2 (Ne.symm e2) fun oq hoq => (hT.dst p2 oq hoq).2 rfl]
          exact hJ l1 l2
      have hnw : i = p1 \/ i = p2 -> ∃ w', (execOp a.eval o).run P w = .ok (.value (.pointer (some ⟨w.heap.size, 0, none⟩))) w' := fun e => hT.new i o a.eval w ho e
      unfold Oper.wp
      generalize (execOp a.eval o).run P w = r at *
      cases r with
      | halt x w' => exact h1.elim
      | ok nx w' =>
        cases nx with
        | value u => exact hnext u w' h1.1 h1.2 fun e => by obtain ⟨w2, h⟩ := hnw e; injection h with h; injection h
        | enter f args =>
          obtain ⟨hu', hc⟩ := h1
          refine Calls.mono hc fun e w'' he => ?_
          obtain ⟨hu2, v, rfl, hv⟩ := he
          exact hnext v w'' hv (hu'.trans hu2) fun e => by obtain ⟨w2, h⟩ := hnw e; injection h with h; cases h
        | _ => exact h1.elim
theorem wp_region_sp2 {id : Nat} {a0 : Act} {w0 : World} {n : Nat} (s1 s2 x p1 p2 : Nat) (d1 d2 : Tmp) (ds : List Tmp) (L : List SP) (S : World -> Prop) (hm : P.follows .mixedOrders = true) (hn : a0.tmps.size = n) (hB : relB2 .any ops n s1 s2 x = true)
   (hds : dsB ops ds = true) (hS : ∀ w w', S w -> Up w w' -> S w') (h0 : S w0) (hT : Twin P ops (nthR L) s1 s2 x p1 p2 d1 d2)
   (hop : ∀ ev w, S w -> ∀ i o, i ≠ s1 -> i ≠ s2 -> ops[i]? = some o -> EvR ops L a0 i ev w -> LeavesR P (nthR L i) w ((execOp ev o).run P w))
   (hfin : ∀ (g : Tmp -> Value) w, (∀ i d, i ≠ s1 -> i ≠ s2 -> i ≠ x -> dstB ops i d = true -> nthR L i (g d) w) -> g d1 ≠ g d2 -> S w -> Up w0 w ->
    ∀ o1 o2 ox, ops[s1]? = some o1 -> ops[s2]? = some o2 -> ops[x]? = some ox ->
      ((∀ d, ox.dst = some d -> nthR L x (g d) w) -> Oper.wp P o1 (putL a0 (ds.map fun d => (d, g d))) w (fun a1 w1 => Oper.wp P o2 a1 w1 (Q .normal) Q) Q) /\
      Oper.wp P o1 (putL a0 (ds.map fun d => (d, g d))) w (fun a1 w1 => Oper.wp P ox a1 w1 (fun a2 w2 => Oper.wp P o2 a2 w2 (Q .normal) Q) Q) Q) :
   (Code.region id ops true).wp P Q a0 w0 := by
 refine wp_region_any hm (wpAny_rel2 (R := nthR L) (S := S) hn hB (fun i v w w' h hu => (L.getD i SP.any).up v w w' h hu) hS hT (fun i o hi h1 h2 ev w hSw hev => ?_) (fun a w hs hd ho hr hJ hSw hu => ?_) _ _ _ _ ?_ ?_ ?_ ?_ ?_ ?_ (hS _ _ h0 (Up.drew w0)) (Up.drew w0))
 ·refine hop ev w hSw i o h1 h2 hi ⟨hev.const, hev.func, hev.global, fun s hs => hev.other s fun o' ho' => ?_, fun j d hj => ?_⟩
  ·have := Array.all_eq_true_iff_forall_mem.1 hs o' ho'
   simpa using this
  ·unfold depB at hj
   rw [hi] at hj
   cases hoj : ops[j]? with
   | none => rw [hoj] at hj; cases hj
   | some o' =>
     rw [hoj] at hj
     simp only [Bool.and_eq_true, Array.any_eq_true', beq_iff_eq] at hj
     obtain ⟨⟨e, he, hb, hon⟩, hd⟩ := hj
     exact hev.dep j o' d hoj ⟨e, he, hb, hon⟩ hd
 ·have e := putL_eq (ds := ds) hs hd (fun s hs' => ho s fun o' hm he => hs' (by
   have := Array.all_eq_true_iff_forall_mem.1 hds o' hm
   simpa [he] using this))
  have h := hfin (fun d => a.tmps.getD d undef) w (fun i d h1 h2 h3 hd => by
   unfold dstB at hd
   cases ho : ops[i]? with
   | none => rw [ho] at hd; cases hd
   | some o' =>
     rw [ho] at hd
     exact hr i o' d ho h1 h2 h3 (by simpa using hd)) hJ hSw hu
  rw [<- e] at h
  exact h
 ·unfold leftU; exact Nat.le_trans (List.length_filter_le _ _) (by simp)
 ·intro j oj hj hl
  have : j < ops.size := (Array.getElem?_eq_some_iff.1 hj).1
  simp [this] at hl
 ·have := relB2_is hB
  have h : s1 < ops.size := by omega
  simp [h]
 ·have := relB2_is hB
  have h : s2 < ops.size := by omega
  simp [h]
 ·refine ⟨rfl, rfl, by simp, fun _ _ => rfl, fun i o d ho hl _ => ?_⟩
  have : i < ops.size := (Array.getElem?_eq_some_iff.1 ho).1
  simp [this] at hl
 ·intro h1 _
  have := hT.lt.1
  simp [this] at h1
end
theorem blkM_cell {w : World} {g i : Nat} {C : Array Value} {v : Value} (hB : Blk w g 61 C) (h : C[i]? = some v) : w.cell? ⟨g, i, none⟩ = some v := hB.cell i h
theorem wp_val {P : Program} {o : Oper} {a : Act} {w : World} {v : Value} {K : Act -> World -> Prop} {Q : Exit -> Act -> World -> Prop} (h : (execOp a.eval o).run P w = .ok (.value v) w) (hK : K (a.put o.dst v) w) : Oper.wp P o a w K Q := by
 unfold Oper.wp
 rw [h]
 exact hK
set_option maxHeartbeats 16000000 in
theorem rstep_any {w : World} {base n m k i j B : Nat} {av pv : Value} {G : Nat -> Nat} {V : Nat -> Nat -> Int} {q : Int} (h : OwnM w base av n m G V) (hp : Big w pv q) (hk : k < n) (hi : i < n) (hkm : k < m) (hj : j < m) (hn : n <= 8) (_ : m <= 9) (hB : B <= 100)
   (hq : q ≠ 0) (bq : q.natAbs < bp B) (b1 : (V k k).natAbs < bp B) (b2 : (V i j).natAbs < bp B) (b3 : (V i k).natAbs < bp B) (b4 : (V k j).natAbs < bp B) :
   Calls Tryz.prog 58 #[av, .int .i64 (k : Nat), .int .i64 (i : Nat), .int .i64 (j : Nat), pv] w fun r w' => Up w w' /\ ∃ v, r = .returned v /\ Big w' v ((V k k * V i j - V i k * V k j).tdiv q) := by
 obtain ⟨g, cap, C, rfl, -, -, hBg, hE⟩ := h.open (by omega)
 obtain ⟨ck, hCk⟩ := hE k hk
 obtain ⟨ci, hCi⟩ := hE i hi
 obtain ⟨Ck, bkk, akk, nkk, ckk, hBk, hsk, h1, h2, hkk⟩ := h.entry hk hkm
 obtain ⟨Ck', bkj, akj, nkj, ckj, hBk', -, h3, h4, hkj⟩ := h.entry hk hj
 obtain ⟨Ci, bij, aij, nij, cij, hBi, -, h5, h6, hij⟩ := h.entry hi hj
 obtain ⟨Ci', bik, aik, nik, cik, hBi', -, h7, h8, hik⟩ := h.entry hi hkm
 have e1 : Ck' = Ck := by unfold Blk at hBk hBk'; rw [hBk] at hBk'; simp at hBk'; exact hBk'.symm
 have e2 : Ci' = Ci := by unfold Blk at hBi hBi'; rw [hBi] at hBi'; simp at hBi'; exact hBi'.symm
 subst e1 e2
 obtain ⟨pb, pa, pn, pc, rfl⟩ := hp.shape
 have HCk := hid (fun w' (hB : Blk w' g 61 C) => blkM_cell hB hCk)
 have HCi := hid (fun w' (hB : Blk w' g 61 C) => blkM_cell hB hCi)
 have Hkk := hid (fun w' (hB : Blk w' (G k) 66 Ck') => bigAt_range hB h1 h2)
 have Hkj := hid (fun w' (hB : Blk w' (G k) 66 Ck') => bigAt_range hB h3 h4)
 have Hij := hid (fun w' (hB : Blk w' (G i) 66 Ci') => bigAt_range hB h5 h6)
 have Hik := hid (fun w' (hB : Blk w' (G i) 66 Ci') => bigAt_range hB h7 h8)
 have p1 : (V k k * V i j).natAbs < bp (B + B) := by rw [Int.natAbs_mul, bp_add]; exact Nat.mul_lt_mul_of_lt_of_lt b1 b2
 have p2 : (V i k * V k j).natAbs < bp (B + B) := by rw [Int.natAbs_mul, bp_add]; exact Nat.mul_lt_mul_of_lt_of_lt b3 b4
 have p3 : (V k k * V i j - V i k * V k j).natAbs < bp (B + B + 1) := by have e : bp (B + B + 1) = bp (B + B) * 18446744073709551616 := bp_succ (B + B); omega
 have HM1 := hid (fun (va vb : Value) (w : World) (ha : Big w va (V k k)) (hb : Big w vb (V i j)) => mul_big ha hb (nl_bp (k := B) (by omega) b1) (nl_bp (k := B) (by omega) b2))
 have HM2 := hid (fun (va vb : Value) (w : World) (ha : Big w va (V i k)) (hb : Big w vb (V k j)) => mul_big ha hb (nl_bp (k := B) (by omega) b3) (nl_bp (k := B) (by omega) b4))
 have HS := hid (fun (va vb : Value) (w : World) (ha : Big w va (V k k * V i j)) (hb : Big w vb (V i k * V k j)) => sub_big ha hb (nl_bp (k := B + B) (by omega) p1) (nl_bp (k := B + B) (by omega) p2))
 have HD := hid (fun (va vb : Value) (w : World) (ha : Big w va (V k k * V i j - V i k * V k j)) (hb : Big w vb q) => div_big2 ha hb (nl_bp (k := B + B + 1) (by omega) p3) (nl_bp (k := B) (by omega) bq) (by omega))
 obtain ⟨z1, hz1⟩ : ∃ z, V k k = z := ⟨_, rfl⟩
 obtain ⟨z2, hz2⟩ : ∃ z, V i j = z := ⟨_, rfl⟩
 obtain ⟨z3, hz3⟩ : ∃ z, V i k = z := ⟨_, rfl⟩
 obtain ⟨z4, hz4⟩ : ∃ z, V k j = z := ⟨_, rfl⟩
 rw [hz1] at hkk
 rw [hz2] at hij
 rw [hz3] at hik
 rw [hz4] at hkj
 rw [hz1, hz2] at HM1
 rw [hz3, hz4] at HM2
 rw [hz1, hz2, hz3, hz4] at HS HD ⊢
 clear hz1 hz2 hz3 hz4 h1 h2 h3 h4 h5 h6 h7 h8 b1 b2 b3 b4 p1 p2 p3 hBk' hBi' hCk hCi hE bq hsk hB
 obtain ⟨y1, hy1⟩ : ∃ z, z1 * z2 = z := ⟨_, rfl⟩
 rw [hy1] at HM1 HS HD ⊢
 obtain ⟨y2, hy2⟩ : ∃ z, z3 * z4 = z := ⟨_, rfl⟩
 rw [hy2] at HM2 HS HD ⊢
 obtain ⟨y3, hy3⟩ : ∃ z, y1 - y2 = z := ⟨_, rfl⟩
 rw [hy3] at HS HD ⊢
 obtain ⟨y4, hy4⟩ : ∃ z, y3.tdiv q = z := ⟨_, rfl⟩
 rw [hy4] at HD ⊢
 clear hy1 hy2 hy3 hy4 h
 obtain ⟨W0, hW0⟩ : ∃ W0, w.alloc (.cells #[.bool pb, .slice pa pn pc] 66) = W0 := ⟨_, rfl⟩
 have hBp : Blk W0 w.heap.size 66 #[.bool pb, .slice pa pn pc] := by rw [<- hW0]; exact Blk.new _ _ rfl
 have hU : Up w W0 := by rw [<- hW0]; exact Up.alloc _ _
 have hsW : W0.heap.size = w.heap.size + 1 := by rw [<- hW0]; simp
 obtain ⟨W1, hW1⟩ : ∃ W1, W0.alloc (.cells #[.bool false, .slice none 0 0] 66) = W1 := ⟨_, rfl⟩
 have hBr : Blk W1 (w.heap.size + 1) 66 #[.bool false, .slice none 0 0] := by rw [<- hW1]; exact Blk.new _ _ hsW.symm
 have hU1 : Up W0 W1 := by rw [<- hW1]; exact Up.alloc _ _
 have hUw : Up w W1 := hU.trans hU1
 have hBq := hBp.up hU1
 go_enter Tryz.func58, Tryz.ntmps58
 go_upto_region 1 with fail
 clear hW0 hW1 hU hU1 hBp
 refine wp_region_sp2 (n := 50) 38 39 35 36 37 11 12 [14, 15, 16, 17, 18, 19, 20, 21, 22, 23, 24, 25, 26, 27, 28, 29, 30, 31, 32, 33, 34, 35, 36, 37, 38, 39, 40, 41, 42, 43, 44, 45, 46, 13, 47, 48, 11, 12] [SP.is (.slice (some ⟨g, 0, none⟩) n cap), SP.is (.int .i64 (k : Nat)), SP.is (.pointer (some ⟨g, k, none⟩)), SP.is (.slice (some ⟨G k, 0, none⟩) m ck), SP.is (.int .i64 (k : Nat)), SP.is (.pointer (some ⟨G k, k * 2, none⟩)), SP.is (.agg #[.bool bkk, .slice akk nkk ckk]), SP.is (.slice (some ⟨g, 0, none⟩) n cap), SP.is (.int .i64 (i : Nat)), SP.is (.pointer (some ⟨g, i, none⟩)), SP.is (.slice (some ⟨G i, 0, none⟩) m ci), SP.is (.int .i64 (j : Nat)), SP.is (.pointer (some ⟨G i, j * 2, none⟩)), SP.is (.agg #[.bool bij, .slice aij nij cij]), SP.of (fun v w1 => Big w1 v y1) (fun _ _ _ h hu => h.up hu), SP.is (.slice (some ⟨g, 0, none⟩) n cap), SP.is (.int .i64 (i : Nat)), SP.is (.pointer (some ⟨g, i, none⟩)), SP.is (.slice (some ⟨G i, 0, none⟩) m ci), SP.is (.int .i64 (k : Nat)), SP.is (.pointer (some ⟨G i, k * 2, none⟩)), SP.is (.agg #[.bool bik, .slice aik nik cik]), SP.is (.slice (some ⟨g, 0, none⟩) n cap), SP.is (.int .i64 (k : Nat)), SP.is (.pointer (some ⟨g, k, none⟩)), SP.is (.slice (some ⟨G k, 0, none⟩) m ck), SP.is (.int .i64 (j : Nat)), SP.is (.pointer (some ⟨G k, j * 2, none⟩)), SP.is (.agg #[.bool bkj, .slice akj nkj ckj]), SP.of (fun v w1 => Big w1 v y2) (fun _ _ _ h hu => h.up hu), SP.of (fun v w1 => Big w1 v y3) (fun _ _ _ h hu => h.up hu), SP.is (.agg #[.bool pb, .slice pa pn pc]), SP.of (fun v w1 => ∃ b1 a1 n1 c1 b2 a2 n2 c2, v = .tuple #[.agg #[.bool b1, .slice a1 n1 c1], .agg #[.bool b2, .slice a2 n2 c2]] /\ Big w1 (.agg #[.bool b1, .slice a1 n1 c1]) y4) (fun _ _ _ h hu => (by obtain ⟨b1, a1, n1, c1, b2, a2, n2, c2, h1, h2⟩ := h; exact ⟨b1, a1, n1, c1, b2, a2, n2, c2, h1, h2.up hu⟩)), SP.of (fun v w1 => ∃ b1 a1 n1 c1 b2 a2 n2 c2, v = .tuple #[.agg #[.bool b1, .slice a1 n1 c1], .agg #[.bool b2, .slice a2 n2 c2]] /\ Big w1 (.agg #[.bool b1, .slice a1 n1 c1]) y4) (fun _ _ _ h hu => (by obtain ⟨b1, a1, n1, c1, b2, a2, n2, c2, h1, h2⟩ := h; exact ⟨b1, a1, n1, c1, b2, a2, n2, c2, h1, h2.up hu⟩)), SP.of (fun v w1 => Big w1 v y4) (fun _ _ _ h hu => h.up hu), SP.of (fun v _ => ∃ b1 a1 n1 c1, v = .agg #[.bool b1, .slice a1 n1 c1]) (fun _ _ _ h hu => h), SP.of (fun v w1 => ∃ b, v = .pointer (some ⟨b, 0, none⟩) /\ W1.heap.size <= b /\ Blk w1 b 66 #[.bool false, .slice none 0 0]) (fun _ _ _ h hu => h.imp fun _ k => ⟨k.1, k.2.1, k.2.2.up hu⟩), SP.of (fun v w1 => ∃ b, v = .pointer (some ⟨b, 0, none⟩) /\ W1.heap.size <= b /\ Blk w1 b 66 #[.bool false, .slice none 0 0]) (fun _ _ _ h hu => h.imp fun _ k => ⟨k.1, k.2.1, k.2.2.up hu⟩), SP.any, SP.any] (fun wq => Blk wq w.heap.size 66 #[.bool pb, .slice pa pn pc] /\ Up w wq /\ Up W1 wq /\ Below w.heap.size w wq) (by kernel_rfl) (by rfl) (by kernel_rfl) (by kernel_rfl) (fun _ _ h hu => ⟨(h.1).up hu, (h.2.1).trans hu, (h.2.2.1).trans hu, below_up (h.2.2.2) hu⟩) ⟨(by first | assumption | exact gBlk), (by first | exact Up.refl _ | assumption), (by first | exact Up.refl _ | assumption), gUp⟩ ⟨fun i o hi => ⟨by rintro rfl; obtain rfl := oI hi; rfl, by rintro rfl; obtain rfl := oI hi; rfl⟩, (by decide), (fun i v w hi h => by rcases hi with rfl | rfl <;> (obtain ⟨b, rfl, _, h2⟩ := h; exact ⟨b, rfl, h2.lt⟩)), (fun i o ev w hi hk => by rcases hk with rfl | rfl <;> (obtain rfl := oI hi; exact ⟨w.alloc (.cells #[.bool false, .slice none 0 0] 66), by go_simp⟩))⟩ (fun ev w9 hS9 i o hne1 hne2 hi hev => ?_) (fun gR wE hq hJ hSE huE o1 o2 ox ho1 ho2 hox => ?_)
 ·have ⟨hS1, hS2, hS3, hSB⟩ := hS9
  have hcC := hev.const
  have hcF := hev.func
  have hcG := hev.global
  rcases i with _ | _ | _ | _ | _ | _ | _ | _ | _ | _ | _ | _ | _ | _ | _ | _ | _ | _ | _ | _ | _ | _ | _ | _ | _ | _ | _ | _ | _ | _ | _ | _ | _ | _ | _ | _ | _ | _ | _ | _ | i
  ·obtain rfl := oI hi
   have e0 := hev.other 0 (by kernel_rfl)
   simp [Act.eval] at e0
   exact lV (.slice (some ⟨g, 0, none⟩) n cap)
  ·obtain rfl := oI hi
   have e1 := hev.other 1 (by kernel_rfl)
   simp [Act.eval] at e1
   exact lV (.int .i64 (k : Nat))
  ·obtain rfl := oI hi
   have e14 : ev (.tmp 14) = (.slice (some ⟨g, 0, none⟩) n cap) := hev.dep 0 14 (by kernel_rfl)
   have e15 : ev (.tmp 15) = (.int .i64 (k : Nat)) := hev.dep 1 15 (by kernel_rfl)
   exact lV (.pointer (some ⟨g, k, none⟩))
  ·obtain rfl := oI hi
   have e16 : ev (.tmp 16) = (.pointer (some ⟨g, k, none⟩)) := hev.dep 2 16 (by kernel_rfl)
   have hcx := HCk.out w9 (hBg.up hS2); exact leavesR_value (u := .slice (some ⟨G k, 0, none⟩) m ck) (by go_simp) rfl
  ·obtain rfl := oI hi
   have e1 := hev.other 1 (by kernel_rfl)
   simp [Act.eval] at e1
   exact lV (.int .i64 (k : Nat))
  ·obtain rfl := oI hi
   have e17 : ev (.tmp 17) = (.slice (some ⟨G k, 0, none⟩) m ck) := hev.dep 3 17 (by kernel_rfl)
   have e18 : ev (.tmp 18) = (.int .i64 (k : Nat)) := hev.dep 4 18 (by kernel_rfl)
   exact lV (.pointer (some ⟨G k, k * 2, none⟩))
  ·obtain rfl := oI hi
   have e19 : ev (.tmp 19) = (.pointer (some ⟨G k, k * 2, none⟩)) := hev.dep 5 19 (by kernel_rfl)
   exact leavesR_value (run_ldB2 rfl e19 (Hkk.out _ (hBk.up hS2))) rfl
  ·obtain rfl := oI hi
   have e0 := hev.other 0 (by kernel_rfl)
   simp [Act.eval] at e0
   exact lV (.slice (some ⟨g, 0, none⟩) n cap)
  ·obtain rfl := oI hi
   have e2 := hev.other 2 (by kernel_rfl)
   simp [Act.eval] at e2
   exact lV (.int .i64 (i : Nat))
  ·obtain rfl := oI hi
   have e21 : ev (.tmp 21) = (.slice (some ⟨g, 0, none⟩) n cap) := hev.dep 7 21 (by kernel_rfl)
   have e22 : ev (.tmp 22) = (.int .i64 (i : Nat)) := hev.dep 8 22 (by kernel_rfl)
   exact lV (.pointer (some ⟨g, i, none⟩))
  ·obtain rfl := oI hi
   have e23 : ev (.tmp 23) = (.pointer (some ⟨g, i, none⟩)) := hev.dep 9 23 (by kernel_rfl)
   have hcx := HCi.out w9 (hBg.up hS2); exact leavesR_value (u := .slice (some ⟨G i, 0, none⟩) m ci) (by go_simp) rfl
  ·obtain rfl := oI hi
   have e3 := hev.other 3 (by kernel_rfl)
   simp [Act.eval] at e3
   exact lV (.int .i64 (j : Nat))
  ·obtain rfl := oI hi
   have e24 : ev (.tmp 24) = (.slice (some ⟨G i, 0, none⟩) m ci) := hev.dep 10 24 (by kernel_rfl)
   have e25 : ev (.tmp 25) = (.int .i64 (j : Nat)) := hev.dep 11 25 (by kernel_rfl)
   exact lV (.pointer (some ⟨G i, j * 2, none⟩))
  ·obtain rfl := oI hi
   have e26 : ev (.tmp 26) = (.pointer (some ⟨G i, j * 2, none⟩)) := hev.dep 12 26 (by kernel_rfl)
   exact leavesR_value (run_ldB2 rfl e26 (Hij.out _ (hBi.up hS2))) rfl
  ·obtain rfl := oI hi
   have e20 : ev (.tmp 20) = (.agg #[.bool bkk, .slice akk nkk ckk]) := hev.dep 6 20 (by kernel_rfl)
   have e27 : ev (.tmp 27) = (.agg #[.bool bij, .slice aij nij cij]) := hev.dep 13 27 (by kernel_rfl)
   refine leavesR_call ?_ (HM1.out _ _ _ (e20 ▸ hkk.up hS2) (e27 ▸ hij.up hS2))
   go_simp
  ·obtain rfl := oI hi
   have e0 := hev.other 0 (by kernel_rfl)
   simp [Act.eval] at e0
   exact lV (.slice (some ⟨g, 0, none⟩) n cap)
  ·obtain rfl := oI hi
   have e2 := hev.other 2 (by kernel_rfl)
   simp [Act.eval] at e2
   exact lV (.int .i64 (i : Nat))
  ·obtain rfl := oI hi
   have e29 : ev (.tmp 29) = (.slice (some ⟨g, 0, none⟩) n cap) := hev.dep 15 29 (by kernel_rfl)
   have e30 : ev (.tmp 30) = (.int .i64 (i : Nat)) := hev.dep 16 30 (by kernel_rfl)
   exact lV (.pointer (some ⟨g, i, none⟩))
  ·obtain rfl := oI hi
   have e31 : ev (.tmp 31) = (.pointer (some ⟨g, i, none⟩)) := hev.dep 17 31 (by kernel_rfl)
   have hcx := HCi.out w9 (hBg.up hS2); exact leavesR_value (u := .slice (some ⟨G i, 0, none⟩) m ci) (by go_simp) rfl
  ·obtain rfl := oI hi
   have e1 := hev.other 1 (by kernel_rfl)
   simp [Act.eval] at e1
   exact lV (.int .i64 (k : Nat))
  ·obtain rfl := oI hi
   have e32 : ev (.tmp 32) = (.slice (some ⟨G i, 0, none⟩) m ci) := hev.dep 18 32 (by kernel_rfl)
   have e33 : ev (.tmp 33) = (.int .i64 (k : Nat)) := hev.dep 19 33 (by kernel_rfl)
   exact lV (.pointer (some ⟨G i, k * 2, none⟩))
  ·obtain rfl := oI hi
   have e34 : ev (.tmp 34) = (.pointer (some ⟨G i, k * 2, none⟩)) := hev.dep 20 34 (by kernel_rfl)
   exact leavesR_value (run_ldB2 rfl e34 (Hik.out _ (hBi.up hS2))) rfl
  ·obtain rfl := oI hi
   have e0 := hev.other 0 (by kernel_rfl)
   simp [Act.eval] at e0
   exact lV (.slice (some ⟨g, 0, none⟩) n cap)
  ·obtain rfl := oI hi
   have e1 := hev.other 1 (by kernel_rfl)
   simp [Act.eval] at e1
   exact lV (.int .i64 (k : Nat))
  ·obtain rfl := oI hi
   have e36 : ev (.tmp 36) = (.slice (some ⟨g, 0, none⟩) n cap) := hev.dep 22 36 (by kernel_rfl)
   have e37 : ev (.tmp 37) = (.int .i64 (k : Nat)) := hev.dep 23 37 (by kernel_rfl)
   exact lV (.pointer (some ⟨g, k, none⟩))
  ·obtain rfl := oI hi
   have e38 : ev (.tmp 38) = (.pointer (some ⟨g, k, none⟩)) := hev.dep 24 38 (by kernel_rfl)
   have hcx := HCk.out w9 (hBg.up hS2); exact leavesR_value (u := .slice (some ⟨G k, 0, none⟩) m ck) (by go_simp) rfl
  ·obtain rfl := oI hi
   have e3 := hev.other 3 (by kernel_rfl)
   simp [Act.eval] at e3
   exact lV (.int .i64 (j : Nat))
  ·obtain rfl := oI hi
   have e39 : ev (.tmp 39) = (.slice (some ⟨G k, 0, none⟩) m ck) := hev.dep 25 39 (by kernel_rfl)
   have e40 : ev (.tmp 40) = (.int .i64 (j : Nat)) := hev.dep 26 40 (by kernel_rfl)
   exact lV (.pointer (some ⟨G k, j * 2, none⟩))
  ·obtain rfl := oI hi
   have e41 : ev (.tmp 41) = (.pointer (some ⟨G k, j * 2, none⟩)) := hev.dep 27 41 (by kernel_rfl)
   exact leavesR_value (run_ldB2 rfl e41 (Hkj.out _ (hBk.up hS2))) rfl
  ·obtain rfl := oI hi
   have e35 : ev (.tmp 35) = (.agg #[.bool bik, .slice aik nik cik]) := hev.dep 21 35 (by kernel_rfl)
   have e42 : ev (.tmp 42) = (.agg #[.bool bkj, .slice akj nkj ckj]) := hev.dep 28 42 (by kernel_rfl)
   refine leavesR_call ?_ (HM2.out _ _ _ (e35 ▸ hik.up hS2) (e42 ▸ hkj.up hS2))
   go_simp
  ·obtain rfl := oI hi
   have e28 : (fun v w1 => Big w1 v y1) (ev (.tmp 28)) w9 := hev.dep 14 28 (by kernel_rfl)
   dsimp only at e28
   obtain ⟨v28, hv28⟩ : ∃ v, ev (.tmp 28) = v := ⟨_, rfl⟩
   rw [hv28] at e28
   have e43 : (fun v w1 => Big w1 v y2) (ev (.tmp 43)) w9 := hev.dep 29 43 (by kernel_rfl)
   dsimp only at e43
   obtain ⟨v43, hv43⟩ : ∃ v, ev (.tmp 43) = v := ⟨_, rfl⟩
   rw [hv43] at e43
   refine leavesR_call ?_ (HS.out _ _ _ e28 e43)
   go_simp
  ·obtain rfl := oI hi
   have e9 := hev.other 9 (by kernel_rfl)
   simp [Act.eval] at e9
   exact leavesR_value (run_ldBR rfl (by go_simp) hS1 rfl) rfl
  ·obtain rfl := oI hi
   have e44 : (fun v w1 => Big w1 v y3) (ev (.tmp 44)) w9 := hev.dep 30 44 (by kernel_rfl)
   dsimp only at e44
   obtain ⟨v44, hv44⟩ : ∃ v, ev (.tmp 44) = v := ⟨_, rfl⟩
   rw [hv44] at e44
   have e45 : ev (.tmp 45) = (.agg #[.bool pb, .slice pa pn pc]) := hev.dep 31 45 (by kernel_rfl)
   refine leavesR_call ?_ ((HD.out _ _ _ e44 (e45 ▸ hp.up hS2)).mono fun _ _ h => ⟨h.1, by obtain ⟨_, v, h0, b1, a1, n1, c1, b2, a2, n2, c2, h1, h2, _⟩ := h; exact ⟨v, h0, b1, a1, n1, c1, b2, a2, n2, c2, h1, h2⟩⟩)
   go_simp
  ·obtain rfl := oI hi
   have e46 : (fun v w1 => ∃ b1 a1 n1 c1 b2 a2 n2 c2, v = .tuple #[.agg #[.bool b1, .slice a1 n1 c1], .agg #[.bool b2, .slice a2 n2 c2]] /\ Big w1 (.agg #[.bool b1, .slice a1 n1 c1]) y4) (ev (.tmp 46)) w9 := hev.dep 32 46 (by kernel_rfl)
   dsimp only at e46
   obtain ⟨v46, hv46⟩ : ∃ v, ev (.tmp 46) = v := ⟨_, rfl⟩
   rw [hv46] at e46
   obtain ⟨b1, a1, n1, c1, b2, a2, n2, c2, rfl, h2⟩ := e46; exact leavesR_value (u := .tuple #[.agg #[.bool b1, .slice a1 n1 c1], .agg #[.bool b2, .slice a2 n2 c2]]) (by go_simp) ⟨_, _, _, _, _, _, _, _, rfl, h2⟩
  ·obtain rfl := oI hi
   have e13 : (fun v w1 => ∃ b1 a1 n1 c1 b2 a2 n2 c2, v = .tuple #[.agg #[.bool b1, .slice a1 n1 c1], .agg #[.bool b2, .slice a2 n2 c2]] /\ Big w1 (.agg #[.bool b1, .slice a1 n1 c1]) y4) (ev (.tmp 13)) w9 := hev.dep 33 13 (by kernel_rfl)
   dsimp only at e13
   obtain ⟨v13, hv13⟩ : ∃ v, ev (.tmp 13) = v := ⟨_, rfl⟩
   rw [hv13] at e13
   obtain ⟨b1, a1, n1, c1, b2, a2, n2, c2, rfl, h2⟩ := e13; exact leavesR_value (u := .agg #[.bool b1, .slice a1 n1 c1]) (by go_simp) h2
  ·obtain rfl := oI hi
   have e13 : (fun v w1 => ∃ b1 a1 n1 c1 b2 a2 n2 c2, v = .tuple #[.agg #[.bool b1, .slice a1 n1 c1], .agg #[.bool b2, .slice a2 n2 c2]] /\ Big w1 (.agg #[.bool b1, .slice a1 n1 c1]) y4) (ev (.tmp 13)) w9 := hev.dep 33 13 (by kernel_rfl)
   dsimp only at e13
   obtain ⟨v13, hv13⟩ : ∃ v, ev (.tmp 13) = v := ⟨_, rfl⟩
   rw [hv13] at e13
   obtain ⟨b1, a1, n1, c1, b2, a2, n2, c2, rfl, h2⟩ := e13; exact leavesR_value (u := .agg #[.bool b2, .slice a2 n2 c2]) (by go_simp) ⟨_, _, _, _, rfl⟩
  ·obtain rfl := oI hi
   exact leavesR_up (u := .pointer (some ⟨w9.heap.size, 0, none⟩)) (w' := w9.alloc (.cells #[.bool false, .slice none 0 0] 66)) (by go_simp) (Up.alloc _ _) ⟨_, rfl, hS3.size, Blk.new _ _ rfl⟩
  ·obtain rfl := oI hi
   exact leavesR_up (u := .pointer (some ⟨w9.heap.size, 0, none⟩)) (w' := w9.alloc (.cells #[.bool false, .slice none 0 0] 66)) (by go_simp) (Up.alloc _ _) ⟨_, rfl, hS3.size, Blk.new _ _ rfl⟩
  ·exact absurd rfl hne1
  ·exact absurd rfl hne2
  ·exact absurd (show i + 40 < 40 from (Array.getElem?_eq_some_iff.1 hi).1) (by omega)
 have ⟨hS1, hS2, hS3, hSB⟩ := hSE
 have q0 : gR 14 = (.slice (some ⟨g, 0, none⟩) n cap) := hq 0 14 (by decide) (by decide) (by decide) (by kernel_rfl)
 have q1 : gR 15 = (.int .i64 (k : Nat)) := hq 1 15 (by decide) (by decide) (by decide) (by kernel_rfl)
 have q2 : gR 16 = (.pointer (some ⟨g, k, none⟩)) := hq 2 16 (by decide) (by decide) (by decide) (by kernel_rfl)
 have q3 : gR 17 = (.slice (some ⟨G k, 0, none⟩) m ck) := hq 3 17 (by decide) (by decide) (by decide) (by kernel_rfl)
 have q4 : gR 18 = (.int .i64 (k : Nat)) := hq 4 18 (by decide) (by decide) (by decide) (by kernel_rfl)
 have q5 : gR 19 = (.pointer (some ⟨G k, k * 2, none⟩)) := hq 5 19 (by decide) (by decide) (by decide) (by kernel_rfl)
 have q6 : gR 20 = (.agg #[.bool bkk, .slice akk nkk ckk]) := hq 6 20 (by decide) (by decide) (by decide) (by kernel_rfl)
 have q7 : gR 21 = (.slice (some ⟨g, 0, none⟩) n cap) := hq 7 21 (by decide) (by decide) (by decide) (by kernel_rfl)
 have q8 : gR 22 = (.int .i64 (i : Nat)) := hq 8 22 (by decide) (by decide) (by decide) (by kernel_rfl)
 have q9 : gR 23 = (.pointer (some ⟨g, i, none⟩)) := hq 9 23 (by decide) (by decide) (by decide) (by kernel_rfl)
 have q10 : gR 24 = (.slice (some ⟨G i, 0, none⟩) m ci) := hq 10 24 (by decide) (by decide) (by decide) (by kernel_rfl)
 have q11 : gR 25 = (.int .i64 (j : Nat)) := hq 11 25 (by decide) (by decide) (by decide) (by kernel_rfl)
 have q12 : gR 26 = (.pointer (some ⟨G i, j * 2, none⟩)) := hq 12 26 (by decide) (by decide) (by decide) (by kernel_rfl)
 have q13 : gR 27 = (.agg #[.bool bij, .slice aij nij cij]) := hq 13 27 (by decide) (by decide) (by decide) (by kernel_rfl)
 have q14 : (fun v w1 => Big w1 v y1) (gR 28) wE := hq 14 28 (by decide) (by decide) (by decide) (by kernel_rfl)
 dsimp only at q14
 obtain ⟨v28, hv28⟩ : ∃ v, gR 28 = v := ⟨_, rfl⟩
 rw [hv28] at q14
 have q15 : gR 29 = (.slice (some ⟨g, 0, none⟩) n cap) := hq 15 29 (by decide) (by decide) (by decide) (by kernel_rfl)
 have q16 : gR 30 = (.int .i64 (i : Nat)) := hq 16 30 (by decide) (by decide) (by decide) (by kernel_rfl)
 have q17 : gR 31 = (.pointer (some ⟨g, i, none⟩)) := hq 17 31 (by decide) (by decide) (by decide) (by kernel_rfl)
 have q18 : gR 32 = (.slice (some ⟨G i, 0, none⟩) m ci) := hq 18 32 (by decide) (by decide) (by decide) (by kernel_rfl)
 have q19 : gR 33 = (.int .i64 (k : Nat)) := hq 19 33 (by decide) (by decide) (by decide) (by kernel_rfl)
 have q20 : gR 34 = (.pointer (some ⟨G i, k * 2, none⟩)) := hq 20 34 (by decide) (by decide) (by decide) (by kernel_rfl)
 have q21 : gR 35 = (.agg #[.bool bik, .slice aik nik cik]) := hq 21 35 (by decide) (by decide) (by decide) (by kernel_rfl)
 have q22 : gR 36 = (.slice (some ⟨g, 0, none⟩) n cap) := hq 22 36 (by decide) (by decide) (by decide) (by kernel_rfl)
 have q23 : gR 37 = (.int .i64 (k : Nat)) := hq 23 37 (by decide) (by decide) (by decide) (by kernel_rfl)
 have q24 : gR 38 = (.pointer (some ⟨g, k, none⟩)) := hq 24 38 (by decide) (by decide) (by decide) (by kernel_rfl)
 have q25 : gR 39 = (.slice (some ⟨G k, 0, none⟩) m ck) := hq 25 39 (by decide) (by decide) (by decide) (by kernel_rfl)
 have q26 : gR 40 = (.int .i64 (j : Nat)) := hq 26 40 (by decide) (by decide) (by decide) (by kernel_rfl)
 have q27 : gR 41 = (.pointer (some ⟨G k, j * 2, none⟩)) := hq 27 41 (by decide) (by decide) (by decide) (by kernel_rfl)
 have q28 : gR 42 = (.agg #[.bool bkj, .slice akj nkj ckj]) := hq 28 42 (by decide) (by decide) (by decide) (by kernel_rfl)
 have q29 : (fun v w1 => Big w1 v y2) (gR 43) wE := hq 29 43 (by decide) (by decide) (by decide) (by kernel_rfl)
 dsimp only at q29
 obtain ⟨v43, hv43⟩ : ∃ v, gR 43 = v := ⟨_, rfl⟩
 rw [hv43] at q29
 have q30 : (fun v w1 => Big w1 v y3) (gR 44) wE := hq 30 44 (by decide) (by decide) (by decide) (by kernel_rfl)
 dsimp only at q30
 obtain ⟨v44, hv44⟩ : ∃ v, gR 44 = v := ⟨_, rfl⟩
 rw [hv44] at q30
 have q31 : gR 45 = (.agg #[.bool pb, .slice pa pn pc]) := hq 31 45 (by decide) (by decide) (by decide) (by kernel_rfl)
 have q32 : (fun v w1 => ∃ b1 a1 n1 c1 b2 a2 n2 c2, v = .tuple #[.agg #[.bool b1, .slice a1 n1 c1], .agg #[.bool b2, .slice a2 n2 c2]] /\ Big w1 (.agg #[.bool b1, .slice a1 n1 c1]) y4) (gR 46) wE := hq 32 46 (by decide) (by decide) (by decide) (by kernel_rfl)
 dsimp only at q32
 obtain ⟨v46, hv46⟩ : ∃ v, gR 46 = v := ⟨_, rfl⟩
 rw [hv46] at q32
 have q33 : (fun v w1 => ∃ b1 a1 n1 c1 b2 a2 n2 c2, v = .tuple #[.agg #[.bool b1, .slice a1 n1 c1], .agg #[.bool b2, .slice a2 n2 c2]] /\ Big w1 (.agg #[.bool b1, .slice a1 n1 c1]) y4) (gR 13) wE := hq 33 13 (by decide) (by decide) (by decide) (by kernel_rfl)
 dsimp only at q33
 obtain ⟨v13, hv13⟩ : ∃ v, gR 13 = v := ⟨_, rfl⟩
 rw [hv13] at q33
 have q34 : (fun v w1 => Big w1 v y4) (gR 47) wE := hq 34 47 (by decide) (by decide) (by decide) (by kernel_rfl)
 dsimp only at q34
 obtain ⟨v47, hv47⟩ : ∃ v, gR 47 = v := ⟨_, rfl⟩
 rw [hv47] at q34
 have q36 : (fun v w1 => ∃ b, v = .pointer (some ⟨b, 0, none⟩) /\ W1.heap.size <= b /\ Blk w1 b 66 #[.bool false, .slice none 0 0]) (gR 11) wE := hq 36 11 (by decide) (by decide) (by decide) (by kernel_rfl)
 dsimp only at q36
 obtain ⟨v11, hv11⟩ : ∃ v, gR 11 = v := ⟨_, rfl⟩
 rw [hv11] at q36
 have q37 : (fun v w1 => ∃ b, v = .pointer (some ⟨b, 0, none⟩) /\ W1.heap.size <= b /\ Blk w1 b 66 #[.bool false, .slice none 0 0]) (gR 12) wE := hq 37 12 (by decide) (by decide) (by decide) (by kernel_rfl)
 dsimp only at q37
 obtain ⟨v12, hv12⟩ : ∃ v, gR 12 = v := ⟨_, rfl⟩
 rw [hv12] at q37
 obtain rfl := oI ho1
 obtain rfl := oI ho2
 obtain rfl := oI hox
 rw [hv11, hv12] at hJ
 simp only [putL, List.map_cons, List.map_nil, q0, q1, q2, q3, q4, q5, q6, q7, q8, q9, q10, q11, q12, q13, hv28, q15, q16, q17, q18, q19, q20, q21, q22, q23, q24, q25, q26, q27, q28, hv43, hv44, q31, hv46, hv13, hv47, hv11, hv12, Act.put, pu1, pu2, pu3]
 clear hq hSE q0 q1 q2 q3 q4 q5 q6 q7 q8 q9 q10 q11 q12 q13 q15 q16 q17 q18 q19 q20 q21 q22 q23 q24 q25 q26 q27 q28 q31
 obtain ⟨b4, a4, m4, c4, rfl⟩ := q34.shape
 obtain ⟨z1, rfl, hz1, hBz1⟩ := q36
 obtain ⟨z2, rfl, hz2, hBz2⟩ := q37
 have hne : z2 ≠ z1 := fun e => hJ (by rw [e])
 have hsz : w.heap.size + 1 < W1.heap.size := hBr.lt
 have g1 := hBz1.setRow #[.bool b4, .slice a4 m4 c4]
 have g2 := big_set (D := #[.bool b4, .slice a4 m4 c4]) hBz1 q34
 have g3 := Blk.row_other hBz2 #[.bool b4, .slice a4 m4 c4] hne
 have g4 := Blk.row_other (hBr.up hS3) #[.bool b4, .slice a4 m4 c4] (show w.heap.size + 1 ≠ z1 by omega)
 have g5 : Up w _ := below_setRow hS2 (show w.heap.size <= z1 by omega) #[.bool b4, .slice a4 m4 c4]
 refine ⟨fun hx => ?_, ?_⟩
 ·obtain ⟨b5, a5, m5, c5, h5⟩ := hx 48 rfl
  rw [h5]
  refine wp_stB rfl rfl rfl rfl hBz1 rfl rfl (one2 _ _ _ _) ?_
  refine wp_stB rfl rfl rfl rfl g3 rfl rfl (one2 _ _ _ _) ?_
  have k1 := Blk.row_other g1 #[.bool b5, .slice a5 m5 c5] (Ne.symm hne)
  have k2 := big_set (D := #[.bool b5, .slice a5 m5 c5]) g3 g2
  have k4 := Blk.row_other g4 #[.bool b5, .slice a5 m5 c5] (show w.heap.size + 1 ≠ z2 by omega)
  have k5 : Up w _ := below_setRow g5 (show w.heap.size <= z2 by omega) #[.bool b5, .slice a5 m5 c5]
  obtain ⟨wK, hwK⟩ : ∃ wK, (wE.setRow z1 #[.bool b4, .slice a4 m4 c4]).setRow z2 #[.bool b5, .slice a5 m5 c5] = wK := ⟨_, rfl⟩
  rw [hwK] at k1 k2 k4 k5 ⊢
  clear hwK g1 g2 g3 g4 g5 hS1 hS2 hS3 hSB huE hBz1 hBz2 q14 q29 q30 q32 q33 q34 hx
  go_wp2_with (first
   | ((with_reducible apply ldB_P); exact rfl; exact rfl; exact k1; exact rfl)
   | ((with_reducible apply stB_P); exact rfl; exact rfl; exact k4; exact rfl; exact rfl; exact one2 _ _ _ _
      refine wpL_folded (fun wd => Up w wd /\ Blk wd (w.heap.size + 1) 66 #[.bool b4, .slice a4 m4 c4] /\ Big wd (.agg #[.bool b4, .slice a4 m4 c4]) y4) ⟨below_setRow k5 (by omega) _, Blk.setRow k4 _, big_set k4 k2⟩ ?_
      rintro w6 ⟨j5, j4, j2⟩))
  exact bodyPost_ret (resB rfl rfl j4 rfl) rfl ⟨j5, _, rfl, j2⟩
 ·obtain ⟨b1, a1, m1, c1, b2, a2, m2, c2, rfl, -⟩ := q33
  refine wp_stB rfl rfl rfl rfl hBz1 rfl rfl (one2 _ _ _ _) ?_
  refine wp_val (v := .agg #[.bool b2, .slice a2 m2 c2]) (by go_simp) ?_
  refine wp_stB rfl rfl rfl rfl g3 rfl rfl (one2 _ _ _ _) ?_
  have k1 := Blk.row_other g1 #[.bool b2, .slice a2 m2 c2] (Ne.symm hne)
  have k2 := big_set (D := #[.bool b2, .slice a2 m2 c2]) g3 g2
  have k4 := Blk.row_other g4 #[.bool b2, .slice a2 m2 c2] (show w.heap.size + 1 ≠ z2 by omega)
  have k5 : Up w _ := below_setRow g5 (show w.heap.size <= z2 by omega) #[.bool b2, .slice a2 m2 c2]
  obtain ⟨wK, hwK⟩ : ∃ wK, (wE.setRow z1 #[.bool b4, .slice a4 m4 c4]).setRow z2 #[.bool b2, .slice a2 m2 c2] = wK := ⟨_, rfl⟩
  rw [hwK] at k1 k2 k4 k5 ⊢
  clear hwK g1 g2 g3 g4 g5 hS1 hS2 hS3 hSB huE hBz1 hBz2 q14 q29 q30 q32 q34
  go_wp2_with (first
   | ((with_reducible apply ldB_P); exact rfl; exact rfl; exact k1; exact rfl)
   | ((with_reducible apply stB_P); exact rfl; exact rfl; exact k4; exact rfl; exact rfl; exact one2 _ _ _ _
      refine wpL_folded (fun wd => Up w wd /\ Blk wd (w.heap.size + 1) 66 #[.bool b4, .slice a4 m4 c4] /\ Big wd (.agg #[.bool b4, .slice a4 m4 c4]) y4) ⟨below_setRow k5 (by omega) _, Blk.setRow k4 _, big_set k4 k2⟩ ?_
      rintro w6 ⟨j5, j4, j2⟩))
  exact bodyPost_ret (resB rfl rfl j4 rfl) rfl ⟨j5, _, rfl, j2⟩
theorem rsign_big {v : Value} {z : Int} {w : World} (h : Big w v z) : Calls Tryz.prog 50 #[v] w fun r w' => r = .returned (.int .i64 (sgn z)) /\ Up w w' := by
 obtain ⟨a, c, rfl, -⟩ := h
 rw [<- sgn_big]
 exact bsign_any _ _ _ _ _
theorem OwnB.blk {w : World} {b : Nat} {v : Value} {l : List Int} (h : OwnB w b v l) : ∀ k, v.ownBlock = some k -> b <= k /\ k < w.heap.size /\ ∃ C, Blk w k 66 C := by
 intro k hk
 obtain ⟨xs, hx, _⟩ := h
 have hlt := World.ownsRow.lt hx k hk
 obtain ⟨_, ⟨rfl, _⟩ | ⟨g', cap, cur, rfl, _, hB, _⟩⟩ := hx
 ·simp [Value.ownBlock] at hk
 ·simp [Value.ownBlock] at hk; subst hk; exact ⟨hlt.1, hlt.2, cur, hB⟩
theorem OwnB.lower {w : World} {b g : Nat} {v : Value} {l : List Int} {C : Array Value} (h : OwnB w b v l) (hC : Blk w g 66 C) (D : Array Value) (hg : g < b) : OwnB (w.setRow g D) b v l := by
 obtain ⟨xs, ⟨h0, h1⟩, h2⟩ := h
 refine ⟨xs, ⟨h0, ?_⟩, fun i hi => ?_⟩
 ·rcases h1 with h1 | ⟨g', cap, cur, hv, hb, hB, hr⟩
  ·exact .inl h1
  ·exact .inr ⟨g', cap, cur, hv, hb, Blk.row_other (w := w) hB _ (by omega), hr⟩
 ·obtain ⟨b', a, n, c, e1, e2, e3⟩ := h2 i hi
  exact ⟨b', a, n, c, e1, e2, e3.setRow hC⟩
theorem OwnM.otherB {w : World} {base n m p : Nat} {v : Value} {G : Nat -> Nat} {V : Nat -> Nat -> Int} {C : Array Value} (h : OwnM w base v n m G V) (hC : Blk w p 66 C) (D : Array Value) (hp : ∀ i, i < n -> G i ≠ p) : OwnM (w.setRow p D) base v n m G V := by
 obtain ⟨xs, ⟨h0, h1⟩, h2, h3, h4⟩ := h
 refine ⟨xs, ⟨h0, ?_⟩, h2, fun i hi => ⟨(h3 i hi).1, (h3 i hi).2.other hC _ (hp i hi)⟩, h4⟩
 rcases h1 with h1 | ⟨g', cap, cur, hv, hb, hB, hr⟩
 ·exact .inl h1
 ·refine .inr ⟨g', cap, cur, hv, hb, Blk.row_other (w := w) hB _ fun e => ?_, hr⟩
  subst e
  unfold Blk at hC
  rw [hC] at hB
  simp at hB
theorem OwnM.grownB {w w' : World} {base n m : Nat} {v : Value} {G : Nat -> Nat} {V : Nat -> Nat -> Int} {row : Option Nat} (h : OwnM w base v n m G V) (hg : w.grownBy w' row) (hr : ∀ k, row = some k -> (∃ C, Blk w k 66 C) /\ ∀ i, i < n -> G i ≠ k) : OwnM w' base v n m G V := by
 obtain ⟨xs, ⟨h0, h1⟩, h2, h3, h4⟩ := h
 refine ⟨xs, ⟨h0, ?_⟩, h2, fun i hi => ⟨(h3 i hi).1, ?_⟩, h4⟩
 ·rcases h1 with h1 | ⟨g', cap, cur, hv, hb, hB, hq⟩
  ·exact .inl h1
  ·refine .inr ⟨g', cap, cur, hv, hb, Blk.grown hB hg fun e => ?_, hq⟩
   obtain ⟨C, hC⟩ := (hr g' e).1
   unfold Blk at hC
   rw [hC] at hB
   simp at hB
 ·obtain ⟨C, e1, e2, e3⟩ := (h3 i hi).2
  refine ⟨C, e1.grown hg fun e => (hr _ e).2 i hi rfl, e2, fun j hj => ?_⟩
  obtain ⟨b, a, k, c, e4, e5, e6⟩ := e3 j hj
  exact ⟨b, a, k, c, e4, e5, e6.grown hg fun k hk => (hr k hk).1⟩
structure MI (w : World) (base bP bO n : Nat) (av : Value) (G : Nat -> Nat) (b0 : Bool) (p0 : Option Addr) (n0 c0 : Nat) (q : Int) (tv : Value) (L : List Int) (V : Nat -> Nat -> Int) (wr : World) : Prop where
 m : OwnM wr base av n n G V
 p : Blk wr bP 66 #[.bool b0, .slice p0 n0 c0]
 q : Big wr (.agg #[.bool b0, .slice p0 n0 c0]) q
 l : OwnB wr bO tv L
 u : Below base w wr
theorem MI.up {w : World} {base bP bO n : Nat} {av : Value} {G : Nat -> Nat} {b0 : Bool} {p0 : Option Addr} {n0 c0 : Nat} {q : Int} {tv : Value} {L : List Int} {V : Nat -> Nat -> Int} {wr wr' : World} (h : MI w base bP bO n av G b0 p0 n0 c0 q tv L V wr) (hu : Up wr wr') (hb : base <= w.heap.size) : MI w base bP bO n av G b0 p0 n0 c0 q tv L V wr' :=
 ⟨h.m.up hu, h.p.up hu, h.q.up hu, h.l.up hu, hu.below h.u (Nat.le_trans hb h.u.size)⟩
theorem MI.set {w : World} {base bP bO n : Nat} {av : Value} {G : Nat -> Nat} {b0 : Bool} {p0 : Option Addr} {n0 c0 : Nat} {q : Int} {tv : Value} {L : List Int} {V : Nat -> Nat -> Int} {wr : World} (h : MI w base bP bO n av G b0 p0 n0 c0 q tv L V wr) {i j : Nat} (hi : i < n) (hj : j < n) (hG : ∀ q, q < n -> G q < bP) (hPO : bP < bO)
   {C : Array Value} (hC : Blk wr (G i) 66 C) {b : Bool} {p : Option Addr} {k c : Nat} {z : Int} (hz : Big wr (.agg #[.bool b, .slice p k c]) z) :
   MI w base bP bO n av G b0 p0 n0 c0 q tv L (upd2 V i j z) (wr.setRow (G i) (splB C (j * 2) [.bool b, .slice p k c])) := by
 have hg := hG i hi
 have hb : base <= G i := by obtain ⟨_, _, _, h3, _⟩ := h.m; exact (h3 i hi).1
 exact ⟨(h.m.set hi hj hC hz).1, Blk.row_other h.p _ (by omega), h.q.setRow hC, h.l.lower hC _ (by omega), below_setRow h.u hb _⟩
def At1 (n k : Nat) (q : Int) (M : Nat -> Nat -> Int) (i j : Nat) (V : Nat -> Nat -> Int) : Prop :=
 ∀ r c, k <= r -> r < n -> k <= c -> c < n -> V r c = if k + 1 <= r /\ k + 1 <= c /\ (r < i \/ r = i /\ c < j) then nxt q M (r - (k + 1)) (c - (k + 1)) else M (r - k) (c - k)
theorem At1.start {n k : Nat} {q : Int} {M V : Nat -> Nat -> Int} (h : ∀ r c, k <= r -> r < n -> k <= c -> c < n -> V r c = M (r - k) (c - k)) : At1 n k q M (k + 1) (k + 1) V := fun r c h1 h2 h3 h4 => by
 rw [if_neg (by omega)]; exact h r c h1 h2 h3 h4
theorem At1.row {n k i : Nat} {q : Int} {M V : Nat -> Nat -> Int} (h : At1 n k q M i n V) : At1 n k q M (i + 1) (k + 1) V := fun r c h1 h2 h3 h4 => by
 rw [h r c h1 h2 h3 h4]
 by_cases e : k + 1 <= r /\ k + 1 <= c /\ (r < i \/ r = i /\ c < n)
 ·rw [if_pos e, if_pos (by omega)]
 ·rw [if_neg e, if_neg (by omega)]
theorem At1.all {n k : Nat} {q : Int} {M V : Nat -> Nat -> Int} (h : At1 n k q M n (k + 1) V) : ∀ r c, k + 1 <= r -> r < n -> k + 1 <= c -> c < n -> V r c = nxt q M (r - (k + 1)) (c - (k + 1)) := fun r c h1 h2 h3 h4 => by
 rw [h r c (by omega) h2 (by omega) h4, if_pos (by omega)]
theorem At1.old {n k i j : Nat} {q : Int} {M V : Nat -> Nat -> Int} (h : At1 n k q M i j V) {r c : Nat} (h1 : k <= r) (h2 : r < n) (h3 : k <= c) (h4 : c < n) (e : ¬ (k + 1 <= r /\ k + 1 <= c /\ (r < i \/ r = i /\ c < j))) : V r c = M (r - k) (c - k) := by
 rw [h r c h1 h2 h3 h4, if_neg e]
theorem At1.step {n k i j : Nat} {q : Int} {M V : Nat -> Nat -> Int} (h : At1 n k q M i j V) (hi : k + 1 <= i) (hin : i < n) (hj : k + 1 <= j) (hjn : j < n) : (V k k * V i j - V i k * V k j).tdiv q = nxt q M (i - (k + 1)) (j - (k + 1)) := by
 rw [h.old (r := k) (c := k) (by omega) (by omega) (by omega) (by omega) (by omega), h.old (r := i) (c := j) (by omega) (by omega) (by omega) (by omega) (by omega), h.old (r := i) (c := k) (by omega) (by omega) (by omega) (by omega) (by omega), h.old (r := k) (c := j) (by omega) (by omega) (by omega) (by omega) (by omega)]
 unfold nxt chio
 rw [Nat.sub_self, show i - (k + 1) + 1 = i - k by omega, show j - (k + 1) + 1 = j - k by omega]
theorem At1.set {n k i j : Nat} {q : Int} {M V : Nat -> Nat -> Int} (h : At1 n k q M i j V) (hi : k + 1 <= i) (hj : k + 1 <= j) : At1 n k q M i (j + 1) (upd2 V i j (nxt q M (i - (k + 1)) (j - (k + 1)))) := fun r c h1 h2 h3 h4 => by
 unfold upd2
 by_cases e : r = i /\ c = j
 ·rw [if_pos e, e.1, e.2, if_pos (by omega)]
 ·rw [if_neg e, h r c h1 h2 h3 h4]
  by_cases e2 : k + 1 <= r /\ k + 1 <= c /\ (r < i \/ r = i /\ c < j)
  ·rw [if_pos e2, if_pos (by omega)]
  ·rw [if_neg e2, if_neg (by omega)]
end Go.Proofs.YtahifcannoekhaaGreatDoor
