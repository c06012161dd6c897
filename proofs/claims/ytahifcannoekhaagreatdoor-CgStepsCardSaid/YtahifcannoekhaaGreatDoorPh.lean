import Derived.Test.YtahifcannoekhaaGreatDoorPg
import Derived.ArgAppend
import Derived.OwnWalk
import Derived.Laws.CopyOwn
import Derived.DataShut
import Derived.Deep.DeepCutAuto
namespace Go.Proofs.YtahifcannoekhaaGreatDoor
open Go Go.RowKit
set_option maxRecDepth 100000
theorem run_appRow {w : World} {base r n cap g c : Nat} {l : List Int} {b : Bool} {p : Option Addr} {m k : Nat} {z : Int} (ty : TypeId)
   (hown : OwnB w base (.slice (some ⟨r, 0, none⟩) n cap) l) (h0 : 0 < l.length) (hl : l.length < 1000000) (hV : w.rangeAt g 0 [.bool b, .slice p m k]) (hz : Big w (.agg #[.bool b, .slice p m k]) z) (hbase : base <= w.heap.size) :
   ∃ g' c' w', (Builtin.append_ #[61, 61] ty #[.slice (some ⟨r, 0, none⟩) n cap, .slice (some ⟨g, 0, none⟩) 1 c]).run Tryz.prog w = .ok (.slice (some ⟨g', 0, none⟩) (n + 1) c') w' /\ OwnB w' base (.slice (some ⟨g', 0, none⟩) (n + 1) c') (l ++ [z]) /\ w.grownBy w' (some r) /\ (g' = r \/ w.heap.size <= g') := by
 obtain ⟨i0, hi0, he⟩ := Option.map_eq_some_iff.1 infoBs
 simp only [Prod.mk.injEq] at he
 obtain ⟨xs, hx, hE⟩ := hown
 have hx' := hx
 obtain ⟨hxl, h1 | ⟨r1, cap1, cur, hv, hb, hB, hc, hmx, hs, ht⟩⟩ := hx'
 ·omega
 injection hv with x1 x2 x3
 injection x1 with x1
 injection x1 with x1
 subst x1 x2 x3
 have hB' : Blk w r 66 cur := hB
 have hnews : ∀ j u, ([Value.bool b, .slice p m k] : List Value)[j]? = some u -> w.cell? ((⟨g, 0, none⟩ : Addr).add j) = some u := fun j y hy => by rw [Addr.add_mid]; exact hV j y hy
 have hone : ∀ u ∈ ([Value.bool b, .slice p m k] : List Value), u.oneCell' = true := by simp [Value.oneCell']
 obtain ⟨v1, w1, hr, h2, h3, -⟩ := run_append_own (P := Tryz.prog) w base 61 ty 66 i0 _ 2 32 undBs hi0 he.1 he.2.1 he.2.2 rfl (by decide) _ _ xs hx ⟨g, 0, none⟩ 1 c [.bool b, .slice p m k] rfl hnews hone (by unfold maxLen; omega) (by omega) hbase
 have h2' := h2
 obtain ⟨hl2, h4 | ⟨g1, cap2, cur2, hv2, hb2, hB2, hc2, hm2, hs2, ht2⟩⟩ := h2'
 ·omega
 subst hv2
 have hrow : ∀ q, (some r : Option Nat) = some q -> ∃ C, Blk w q 66 C := fun q hq => by injection hq with hq; subst hq; exact ⟨cur, hB'⟩
 refine ⟨g1, cap2, w1, hr, ⟨xs ++ [.bool b, .slice p m k], by rw [List.length_append]; exact h2, fun i hi => ?_⟩, h3, ?_⟩
 ·rw [List.length_append, List.length_singleton] at hi
  by_cases e : i < l.length
  ·obtain ⟨b', a', n', c', h5, h6, h7⟩ := hE i e
   have ez : zth (l ++ [z]) i = zth l i := by unfold zth; rw [List.getD_eq_getElem?_getD, List.getD_eq_getElem?_getD, List.getElem?_append_left e]
   rw [ez]
   exact ⟨b', a', n', c', by dsimp only at h5 ⊢; rw [List.getElem?_append_left (by omega)]; exact h5, by dsimp only at h6 ⊢; rw [List.getElem?_append_left (by omega)]; exact h6, h7.grown h3 hrow⟩
  ·obtain rfl : i = l.length := by omega
   have ez : zth (l ++ [z]) l.length = z := by unfold zth; rw [List.getD_eq_getElem?_getD, List.getElem?_append_right (Nat.le_refl _), Nat.sub_self]; rfl
   rw [ez]
   exact ⟨b, p, m, k, by dsimp only; rw [List.getElem?_append_right (by omega), hxl, Nat.sub_self]; rfl, by dsimp only; rw [List.getElem?_append_right (by omega), hxl, show l.length * 2 + 1 - l.length * 2 = 1 by omega]; rfl, hz.grown h3 hrow⟩
 ·by_cases room : l.length + 1 <= cap
  ·have hi2 : i0.size = 2 := he.2.1
   have h9 := run_append_room_cells (P := Tryz.prog) w 61 ty 66 i0 undBs hi0 r 0 l.length cap ⟨g, 0, none⟩ 1 c [.bool b, .slice p m k] (by rw [hi2]; rfl) hnews hone room (fun j hj => by
    rw [hi2, Nat.zero_add, cell_of_row _ _ _ _ _ _ hB]
    have : l.length * 2 + j < cur.size := by simp at hj; omega
    rw [Array.getElem?_eq_getElem this]; rfl) (fun j _ => hB'.frozen _)
   rw [h9] at hr
   injection hr with hr _
   injection hr with hr _ _
   injection hr with hr
   injection hr with hr _ _
   exact .inl hr.symm
  ·obtain ⟨v3, w3, hr3, h10, -⟩ := run_append_arg_grows (P := Tryz.prog) w 61 ty 66 i0 _ 2 32 undBs hi0 he.1 he.2.1 he.2.2 rfl (by decide) ⟨r, 0, none⟩ l.length cap xs hxl (fun j u hj => by
    rw [Addr.add_mid, Nat.zero_add, cell_of_row _ _ _ _ _ _ hB, <- Array.getElem?_toList]
    rw [<- ht] at hj
    have hjl : j < l.length * 2 := by
     rcases Nat.lt_or_ge j (l.length * 2) with h | h
     ·exact h
     ·rw [List.getElem?_eq_none (by rw [List.length_take]; omega)] at hj; cases hj
    rw [List.getElem?_take_of_lt hjl] at hj
    exact hj) ⟨g, 0, none⟩ 1 c [.bool b, .slice p m k] rfl hnews (by omega) (by unfold maxLen; omega) (by omega)
   rw [hr3] at hr
   injection hr with hr hw
   subst hr hw
   obtain ⟨_, h11 | ⟨g2, _, _, hv3, hb3, _⟩⟩ := h10
   ·omega
   ·injection hv3 with x1 _ _
    injection x1 with x1
    injection x1 with x1
    subst x1
    exact .inr hb3
theorem wp_appRow {o : Oper} {a : Act} {K : Act -> World -> Prop} {Q : Exit -> Act -> World -> Prop} {w : World} {base r n cap g c : Nat} {l : List Int} {b : Bool} {p : Option Addr} {m k : Nat} {z : Int} (s u : Operand)
   (ho : o.op = .call { callee := .builtin .append, args := #[s, u], argTypes := #[61, 61] })
   (hs : a.eval s = .slice (some ⟨r, 0, none⟩) n cap) (hu : a.eval u = .slice (some ⟨g, 0, none⟩) 1 c) (hown : OwnB w base (.slice (some ⟨r, 0, none⟩) n cap) l) (h0 : 0 < l.length) (hl : l.length < 1000000) (hV : w.rangeAt g 0 [.bool b, .slice p m k]) (hz : Big w (.agg #[.bool b, .slice p m k]) z) (hbase : base <= w.heap.size)
   (h : ∀ g' c' w', OwnB w' base (.slice (some ⟨g', 0, none⟩) (n + 1) c') (l ++ [z]) -> w.grownBy w' (some r) -> (g' = r \/ w.heap.size <= g') -> K (a.put o.dst (.slice (some ⟨g', 0, none⟩) (n + 1) c')) w') : o.wp Tryz.prog a w K Q := by
 obtain ⟨g', c', w', hr, h1, h2, h3⟩ := run_appRow o.type hown h0 hl hV hz hbase
 unfold Oper.wp execOp
 simp only [ho, resolve, invoke, builtin, Sem.run_bind, Sem.run_pure, Result.andThen_ok, List.map_toArray, List.map_cons, List.map_nil, hs, hu]
 rw [hr]
 exact h _ _ _ h1 h2 h3
theorem OwnB.grownB {w w' : World} {r b : Nat} {v : Value} {l : List Int} {C : Array Value} (h : OwnB w b v l) (hg : w.grownBy w' (some r)) (hC : Blk w r 66 C) (hr : v.ownBlock ≠ some r) : OwnB w' b v l := by
 obtain ⟨xs, ⟨h0, h1⟩, h2⟩ := h
 have hrow : ∀ q, (some r : Option Nat) = some q -> ∃ C, Blk w q 66 C := fun q hq => by injection hq with hq; subst hq; exact ⟨C, hC⟩
 refine ⟨xs, ⟨h0, ?_⟩, fun i hi => ?_⟩
 ·rcases h1 with h1 | ⟨g, cap, cur, hv, hb, hB, hq⟩
  ·exact .inl h1
  ·subst hv
   exact .inr ⟨g, cap, cur, rfl, hb, Blk.grown hB hg (fun e => hr (by simp only [Value.ownBlock]; exact e.symm)), hq⟩
 ·obtain ⟨b', a', n', c', e1, e2, e3⟩ := h2 i hi
  exact ⟨b', a', n', c', e1, e2, e3.grown hg hrow⟩
theorem Big.setMC {w : World} {g i : Nat} {C : Array Value} {v u : Value} {z : Int} (h : Big w v z) (hB : Blk w g 61 C) : Big (w.setCell ⟨g, i, none⟩ u) v z := by
 obtain ⟨a, c, h1, a2, c2, h2, h3, h4⟩ := h
 refine ⟨a, c, h1, a2, c2, h2, h3, fun h0 => ?_⟩
 obtain ⟨b, E, h5, h6, h7⟩ := h4 h0
 refine ⟨b, E, h5, h6.other _ _ fun e => ?_, h7⟩
 have e : b = g := e
 subst e
 unfold Blk at hB h6
 rw [hB] at h6
 simp at h6
theorem OwnB.setMC {w : World} {g i b : Nat} {C : Array Value} {v u : Value} {l : List Int} (h : OwnB w b v l) (hB : Blk w g 61 C) : OwnB (w.setCell ⟨g, i, none⟩ u) b v l := by
 obtain ⟨xs, ⟨h0, h1⟩, h2⟩ := h
 refine ⟨xs, ⟨h0, ?_⟩, fun i hi => ?_⟩
 ·rcases h1 with h1 | ⟨g', cap, cur, hv, hb, hB', hq⟩
  ·exact .inl h1
  ·refine .inr ⟨g', cap, cur, hv, hb, Blk.other (w := w) hB' _ _ fun e => ?_, hq⟩
   have e : g' = g := e
   subst e
   unfold Blk at hB
   rw [hB] at hB'
   simp at hB'
 ·obtain ⟨b', a', n', c', e1, e2, e3⟩ := h2 i hi
  exact ⟨b', a', n', c', e1, e2, e3.setMC hB⟩
theorem OwnG.push {w w' : World} {base n cA gA i g' c' : Nat} {mf G : Nat -> Nat} {V : Nat -> Nat -> Int} (h : OwnG w base (.slice (some ⟨gA, 0, none⟩) n cA) n mf G V) (hi : i < n) (hbase : base <= w.heap.size)
   (hO : OwnB w' base (.slice (some ⟨g', 0, none⟩) (mf i + 1) c') (mk (mf i) (V i) ++ [V i (mf i)])) (hg : w.grownBy w' (some (G i))) (hn : g' = G i \/ w.heap.size <= g') {w2 : World} (hu : Up w' w2) :
   OwnG (w2.setCell ⟨gA, i, none⟩ (.slice (some ⟨g', 0, none⟩) (mf i + 1) c')) base (.slice (some ⟨gA, 0, none⟩) n cA) n (fun r => if r = i then mf i + 1 else mf r) (fun r => if r = i then g' else G r) V /\ w2.frozen? ⟨gA, i, none⟩ = false /\ (∃ v, w2.cell? ⟨gA, i, none⟩ = some v) /\ base <= gA := by
 have hRB := fun r (hr : r < n) => h.rowB hr
 obtain ⟨xs, Cp, ⟨h0, h1⟩, h2, h3, h4⟩ := h
 rcases h1 with h1 | ⟨g, cap, cur, hv, hb, hB, hc, hm, hs, ht⟩
 ·omega
 injection hv with x1 _ x3
 injection x1 with x1
 injection x1 with x1
 subst x1 x3
 obtain ⟨Ci, hCi, -⟩ := hRB i hi
 have hB0 : Blk w gA 61 cur := hB
 have hne : gA ≠ G i := fun e => by
  rw [<- e] at hCi
  unfold Blk at hB0 hCi
  rw [hB0] at hCi
  simp at hCi
 have hB1 : Blk w2 gA 61 cur := (Blk.grown hB0 hg (fun e => hne (by injection e with e; exact e.symm))).up hu
 have hci : i < cur.size := by omega
 refine ⟨⟨(cur.setIfInBounds i (.slice (some ⟨g', 0, none⟩) (mf i + 1) c')).toList.take (n * 1), fun r => if r = i then c' else Cp r, ⟨?_, .inr ⟨gA, cA, _, rfl, hb, hB1.set i _, hc, hm, by simp; omega, rfl⟩⟩, fun r hr => ?_, fun r hr => ?_, fun a b ha hb' e => ?_⟩, hB1.frozen i, ⟨_, by rw [cell_of_row _ _ _ _ _ _ hB1, Array.getElem?_eq_getElem hci]⟩, hb⟩
 ·rw [List.length_take, Array.length_toList]; simp; omega
 ·rw [List.getElem?_take_of_lt (by omega), Array.getElem?_toList, Array.getElem?_setIfInBounds]
  dsimp only
  by_cases e : r = i
  ·subst e; rw [if_pos rfl, if_pos hci, if_pos rfl, if_pos rfl, if_pos rfl]
  ·rw [if_neg (Ne.symm e), if_neg e, if_neg e, if_neg e]
   have h5 := h2 r hr
   rw [<- ht, List.getElem?_take_of_lt (by omega), Array.getElem?_toList] at h5
   exact h5
 ·dsimp only
  by_cases e : r = i
  ·subst e
   rw [if_pos rfl, if_pos rfl, if_pos rfl]
   refine ⟨?_, by omega, ?_⟩
   ·rcases hn with hn | hn
    ·rw [hn]; exact (h3 r hr).1
    ·omega
   ·rw [mk_succ]
    exact (hO.up hu).setMC hB1
  ·rw [if_neg e, if_neg e, if_neg e]
   obtain ⟨h5, h6, h7⟩ := h3 r hr
   exact ⟨h5, h6, ((h7.grownB hg hCi (fun e2 => e (h4 r i hr hi (by simp only [Value.ownBlock] at e2; injection e2)))).up hu).setMC hB1⟩
 ·dsimp only at e
  by_cases e1 : a = i <;> by_cases e2 : b = i
  ·omega
  ·rw [if_pos e1, if_neg e2] at e
   have h5 := (hRB b hb').lt
   rcases hn with hn | hn
   ·exact absurd (h4 i b hi hb' (by omega)) (Ne.symm e2)
   ·omega
  ·rw [if_neg e1, if_pos e2] at e
   have h5 := (hRB a ha).lt
   rcases hn with hn | hn
   ·exact absurd (h4 a i ha hi (by omega)) e1
   ·omega
  ·rw [if_neg e1, if_neg e2] at e
   exact h4 a b ha hb' e
def Run (B n : Nat) (A : Nat -> Nat -> Int) : Prop := ∀ k, k < n -> (∀ j, j < k -> 0 < (gs A j).2 0 0) -> 0 < (gs A k).1 /\ (gs A k).1.natAbs < bp B /\ ∀ i j, ((gs A k).2 i j).natAbs < bp B
theorem run_AM {n : Nat} {l : List Int} (hR : rt n l = true) : Run 5 n (AM n l) := by
 have h8 := (rt_spec hR).2.1
 have h : ∀ k, k < n -> (∀ j, j < k -> 0 < (gs (AM n l) j).2 0 0) -> 0 < (gs (AM n l) k).1 /\ St (gs (AM n l) k).1 k (gs (AM n l) k).2 := by
  intro k
  induction k with
  | zero => intro _ _; exact ⟨by show (0 : Int) < 1; decide, St.start hR⟩
  | succ k ih =>
    intro hk hp
    have h1 := ih (by omega) fun j hj => hp j (by omega)
    have h2 := hp k (by omega)
    exact ⟨h2, h1.2.next (by omega) (Int.ne_of_gt h2)⟩
 exact fun k hk hp => ⟨(h k hk hp).1, (h k hk hp).2.2.2, (h k hk hp).2.entry (by omega)⟩
theorem mins_succ (s : Nat) (q : Int) (M : Nat -> Nat -> Int) : mins (s + 1) q M = M 0 0 :: (if 0 < M 0 0 then mins s (M 0 0) (nxt q M) else []) := rfl
def Left (n k : Nat) (M V : Nat -> Nat -> Int) : Prop := ∀ r c, k <= r -> r < n -> k <= c -> c < n -> V r c = M (r - k) (c - k)
theorem Left.start {n : Nat} {A V : Nat -> Nat -> Int} (h : ∀ i j, i < n -> j < n -> V i j = A i j) : Left n 0 A V := fun r c _ h2 _ h4 => h r c h2 h4
theorem MI.app {w : World} {base bP bO n : Nat} {av : Value} {G : Nat -> Nat} {b0 : Bool} {p0 : Option Addr} {n0 c0 : Nat} {q z : Int} {tv : Value} {L : List Int} {V : Nat -> Nat -> Int} {wr w' : World} {v' : Value} (h : MI w base bP bO n av G b0 p0 n0 c0 q tv L V wr) (hG : ∀ q, q < n -> G q < bP) (hPO : bP < bO) (hb : base <= bO)
   (hO : OwnB w' bO v' (L ++ [z])) (hg : wr.grownBy w' tv.ownBlock) (hB : Below bO wr w') : MI w base bP bO n av G b0 p0 n0 c0 q v' (L ++ [z]) V w' :=
 ⟨h.m.grownB hg fun k hk => ⟨(h.l.blk k hk).2.2, fun i hi => by have h1 := (h.l.blk k hk).1; have h2 := hG i hi; omega⟩, Blk.below h.p hB hPO, h.q.grown hg fun k hk => (h.l.blk k hk).2.2, hO, Below.trans h.u (Below.mono hB hb)⟩
theorem MI.prev {w : World} {base bP bO n : Nat} {av : Value} {G : Nat -> Nat} {b0 b : Bool} {p0 p : Option Addr} {n0 c0 m c : Nat} {q z : Int} {tv : Value} {L : List Int} {V : Nat -> Nat -> Int} {wr : World} (h : MI w base bP bO n av G b0 p0 n0 c0 q tv L V wr) (hG : ∀ q, q < n -> G q < bP) (hPO : bP < bO) (hb : base <= bP)
   (hz : Big wr (.agg #[.bool b, .slice p m c]) z) : MI w base bP bO n av G b p m c z tv L V (wr.setRow bP #[.bool b, .slice p m c]) :=
 ⟨h.m.otherB h.p _ fun i hi => by have h2 := hG i hi; omega, h.p.setRow _, hz.setRow h.p, h.l.lower h.p _ hPO, below_setRow h.u hb _⟩
set_option maxHeartbeats 16000000 in
theorem rminors_any {w : World} {base n B : Nat} {av : Value} {G : Nat -> Nat} {V : Nat -> Nat -> Int} (h : OwnM w base av n n G V) (hn : n <= 8) (hB : B <= 100) (hR : Run B n V) (hb : base <= w.heap.size) :
   Calls Tryz.prog 111 #[av] w fun r w' => ∃ z, r = .returned z /\ Below base w w' /\ Bv w' z (mins n 1 V) := by
 obtain ⟨pA, cA, rfl⟩ := h.slice
 have HO1 := hid (fun w => of_big 1 (by decide) (by decide) w)
 have HGl := hid (fun q (hq : q < n) => show G q < w.heap.size from by obtain ⟨_, _, _, h3, _⟩ := h; exact (h3 q hq).2.lt)
 have HR := hid hR
 obtain ⟨T, hT⟩ : ∃ T, mins n 1 V = T := ⟨_, rfl⟩
 have HT := hid hT
 rw [hT]
 have HM := hid h
 clear hT hR h
 go_enter Tryz.func111, Tryz.ntmps111
 go_wp2_with (first
  | (go_at_call 25; (with_reducible refine (HO1.out _).mono ?_); rintro r w4 ⟨hu4, v4, rfl, hB4⟩; obtain ⟨b4, a4, n4, c4, rfl⟩ := hB4.shape)
  | ((with_reducible apply stB_P); exact rfl; exact rfl; exact Blk.new _ _ rfl; exact rfl; exact rfl; exact one2 _ _ _ _
     refine wpL_folded (fun wd => Up w4 wd /\ Blk wd w4.heap.size 66 #[.bool b4, .slice a4 n4 c4] /\ Big wd (.agg #[.bool b4, .slice a4 n4 c4]) 1) ⟨gUp, gBlk, (hB4.up (Up.alloc _ _)).setRow (Blk.new _ _ rfl)⟩ ?_
     rintro w5 ⟨hu5, hb5, hB5⟩))
 have hu := hu4.trans hu5
 have hz4 := hu4.size
 have HG := hid (fun q (hq : q < n) => show G q < w4.heap.size from Nat.lt_of_lt_of_le (HGl.out q hq) hz4)
 have HbP := hid (show base <= w4.heap.size from Nat.le_trans hb hz4)
 obtain ⟨bP, hbP⟩ : ∃ y, w4.heap.size = y := ⟨_, rfl⟩
 rw [hbP] at hb5 HG HbP ⊢
 have hMI : MI w base bP (bP + 1) n (.slice pA n cA) G b4 a4 n4 c4 1 (.slice none 0 0) [] V w5 := ⟨HM.out.up hu, hb5, hB5, OwnB.nil _ _, Below.mono hu hb⟩
 have HB0 := hid hb
 clear hu4 hu5 hb5 hB5 hB4 hz4 hbP hu HGl HM hb HO1
 go_loopg [4, 5] n (fun g t4 t5 wr => ∃ (k : Nat) (V' : Nat -> Nat -> Int) (b0 : Bool) (p0 : Option Addr) (n0 c0 : Nat) (L : List Int), k <= n /\ n - k <= g /\ t5 = .int .i64 (k : Nat) /\ (∀ j, j < k -> 0 < (gs V j).2 0 0) /\ Left n k (gs V k).2 V' /\ L ++ mins (n - k) (gs V k).1 (gs V k).2 = T /\ L.length = k /\ MI w base bP (bP + 1) n (.slice pA n cA) G b0 p0 n0 c0 (gs V k).1 t4 L V' wr)
 case atStart => exact ⟨0, V, b4, a4, n4, c4, [], Nat.zero_le _, by omega, rfl, fun j hj => absurd hj (Nat.not_lt_zero _), Left.start fun _ _ _ _ => rfl, HT.out, rfl, hMI⟩
 case round =>
  clear hMI HT
  obtain ⟨k, V', b0, p0, n0, c0, L, hk, hkg, rfl, hpos, hleft, hdone, hLl, hMI⟩ := hrel
  obtain ⟨pL, cL, rfl⟩ := hMI.l.slice
  have HMI := hid hMI
  have HPos := hid hpos
  have HLeft := hid hleft
  have HDone := hid hdone
  have HSz := hid (show bP + 1 <= wr.heap.size from hMI.p.lt)
  have HLl := hid hLl
  clear hpos hleft hdone hMI hLl
  by_cases hlt : k < n
  ·obtain ⟨s, hs⟩ : ∃ s, n - k = s + 1 := ⟨n - k - 1, by omega⟩
   obtain ⟨gA, cA', CA, hvA, -, hcA, hBA, hEA⟩ := HMI.out.m.open (by omega)
   injection hvA with x1 _ x3
   subst x1 x3
   have HEA := hid hEA
   obtain ⟨ck, hCk⟩ := hEA k hlt
   have HCk := hid hCk
   have hcx := hBA.cell k hCk
   obtain ⟨Ck, bk, ak, nk, dk, hBk, -, h1, h2, hbig⟩ := HMI.out.m.entry hlt hlt
   have HRk := hid (fun w' (hB : Blk w' (G k) 66 Ck) => bigAt_range hB h1 h2)
   obtain ⟨r0, r1, r2⟩ := HR.out k hlt HPos.out
   obtain ⟨q, hq⟩ : ∃ q, (gs V k).1 = q := ⟨_, rfl⟩
   obtain ⟨M, hM⟩ : ∃ M, (gs V k).2 = M := ⟨_, rfl⟩
   have HN1 := hid (show (gs V (k + 1)).1 = M 0 0 from by rw [<- hM]; rfl)
   have HN2 := hid (show (gs V (k + 1)).2 = nxt q M from by rw [<- hM, <- hq]; rfl)
   have HP2 := hid (fun (hp : 0 < M 0 0) j (hj : j < k + 1) => show 0 < (gs V j).2 0 0 from by
    by_cases e : j = k
    ·rw [e, hM]; exact hp
    ·exact HPos.out j (by omega))
   have HD2 := hid (show L ++ (M 0 0 :: (if 0 < M 0 0 then mins s (M 0 0) (nxt q M) else [])) = T from by have h := HDone.out; rw [hq, hM, hs, mins_succ] at h; exact h)
   have HLf : Hid (Left n k M V') := hid (by have h := HLeft.out; rw [hM] at h; exact h)
   have HMQ : Hid (MI w base bP (bP + 1) n (.slice (some ⟨gA, 0, none⟩) n cA) G b0 p0 n0 c0 q (.slice pL L.length cL) L V' wr) := hid (by have h := HMI.out; rw [hq] at h; exact h)
   have h00 : V' k k = M 0 0 := by have h := HLf.out k k (Nat.le_refl _) hlt (Nat.le_refl _) hlt; rwa [Nat.sub_self] at h
   rw [hq] at r0 r1
   rw [hM] at r2
   rw [h00] at hbig
   have HQ := hid (show q ≠ 0 /\ q.natAbs < bp B /\ ∀ i j, (M i j).natAbs < bp B from ⟨Int.ne_of_gt r0, r1, r2⟩)
   have HSg := hid (fun w v (h : Big w v (M 0 0)) => rsign_big h)
   have e1 : IntKind.i64.wrap ((k : Int) + 1) = (k : Int) + 1 := IntWalk.i64_in _ (by omega)
   have HL9 : Hid (L.length < 1000000) := hid (by have := HLl.out; omega)
   have HBB := hid hBA
   obtain ⟨m0, hm0⟩ : ∃ y, M 0 0 = y := ⟨_, rfl⟩
   have HM0 := hid hm0
   rw [hm0] at hbig HSg HN1 HP2 HD2
   clear hq hM hm0 hEA hCk h1 h2 r0 r1 r2 h00 HDone HLeft HMI HPos hcA
   go_upto_region 7 with (first
    | ((with_reducible apply ldB2_P); exact rfl; exact rfl; exact HRk.out _ hBk)
    | ((with_reducible apply bsB_P); exact rfl)
    | ((with_reducible apply appB (l := L) (z := m0)); exact rfl; exact rfl; exact OwnB.up (Up.alloc _ _) HMQ.out.l; exact bigAt_range0 (Blk.new _ _ rfl); exact hbig.up (Up.alloc _ _); (focus (have := HSz.out; simp; omega)); exact HL9.out; rintro v6 w6 hO6 hg6 hb6))
   have h6 := (HMQ.out.up (Up.alloc _ _) HB0.out).app HG.out (Nat.lt_succ_self _) (Nat.le_trans HbP.out (Nat.le_succ _)) hO6 hg6 hb6
   have HLL : Hid (∀ y, L ++ [m0] = y -> y.length = k + 1 /\ (∀ Z, L ++ (m0 :: Z) = y ++ Z)) := hid (fun y hy => by
    rw [<- hy]
    exact ⟨by have := HLl.out; simp; omega, fun Z => by rw [List.append_assoc]; rfl⟩)
   obtain ⟨LL, hLL⟩ : ∃ y, L ++ [m0] = y := ⟨_, rfl⟩
   obtain ⟨hl1, hl2⟩ := HLL.out LL hLL
   have HL3 := hid hl1
   replace HD2 := HD2.out
   rw [hl2] at HD2
   replace HD2 := hid HD2
   rw [hLL] at h6 hO6
   clear hLL hl1 hl2 HLL
   obtain ⟨p6, c6, rfl⟩ := hO6.slice
   obtain ⟨gB, cB, CB, hvB, -, -, hBB, hEB⟩ := h6.m.open (by omega)
   injection hvB with x1 _ x3
   injection x1 with x1
   injection x1 with x1
   subst x1 x3
   have HEB := hid hEB
   obtain ⟨ck6, hCk6⟩ := hEB k hlt
   have hcx := hBB.cell k hCk6
   obtain ⟨Ck6, bk6, ak6, nk6, dk6, hBk6, -, h1, h2, hbig6⟩ := h6.m.entry hlt hlt
   have HRk6 := hid (fun w' (hB : Blk w' (G k) 66 Ck6) => bigAt_range hB h1 h2)
   have h00 : V' k k = m0 := by have h := HLf.out k k (Nat.le_refl _) hlt (Nat.le_refl _) hlt; rwa [Nat.sub_self, HM0.out] at h
   rw [h00] at hbig6
   have H6 := hid h6
   clear hEB hCk6 h1 h2 h00 h6 hO6 hg6 hb6 HSz HRk HMQ HBB hBA hBk hbig HCk HEA
   by_cases hp : 0 < m0
   ·have ds : decide (sgn m0 <= 0) = false := by unfold sgn; rw [decide_eq_false]; split <;> (try split) <;> omega
    have HD3 := hid (show LL ++ mins s m0 (nxt q M) = T from by have h := HD2.out; rw [if_pos hp] at h; exact h)
    have HP3 := hid (HP2.out hp)
    clear HD2 HP2 HLl HL9
    go_wp2_with (first
     | ((with_reducible apply ldB2_P); exact rfl; exact rfl; exact HRk6.out _ hBk6)
     | (go_at_call 50; (with_reducible refine (HSg.out _ _ hbig6).mono ?_); rintro r w7 ⟨rfl, hu7⟩))
    have h7 := H6.out.up hu7 HB0.out
    clear hu7 H6 hBk6 hcx HRk6 hBB HEB hbig6 ds HSg
    go_loopg [6] n (fun g ti wr => ∃ (i : Nat) (V1 : Nat -> Nat -> Int), k + 1 <= i /\ i <= n /\ n - i <= g /\ ti = .int .i64 (i : Nat) /\ At1 n k q M i (k + 1) V1 /\ MI w base bP (bP + 1) n (.slice (some ⟨gA, 0, none⟩) n cA) G b0 p0 n0 c0 q (.slice p6 LL.length c6) LL V1 wr)
    case atStart => exact ⟨k + 1, V', Nat.le_refl _, hlt, by omega, rfl, At1.start HLf.out, h7⟩
    case round =>
     clear h7
     obtain ⟨i, V1, hki, hi, hig, rfl, hAt, hMI⟩ := hrel
     have HAt := hid hAt
     have HMI := hid hMI
     clear hAt hMI
     by_cases hil : i < n
     ·have e2 : IntKind.i64.wrap ((i : Int) + 1) = (i : Int) + 1 := IntWalk.i64_in _ (by omega)
      go_wp2_with fail
      obtain ⟨wO, hwO⟩ : ∃ y, wr = y := ⟨_, rfl⟩
      rw [hwO] at HMI ⊢
      clear hwO
      go_loopg [7] n (fun g tj wr => ∃ (j : Nat) (V1 : Nat -> Nat -> Int), k + 1 <= j /\ j <= n /\ n - j <= g /\ tj = .int .i64 (j : Nat) /\ At1 n k q M i j V1 /\ MI w base bP (bP + 1) n (.slice (some ⟨gA, 0, none⟩) n cA) G b0 p0 n0 c0 q (.slice p6 LL.length c6) LL V1 wr)
      case atStart => exact ⟨k + 1, V1, Nat.le_refl _, hlt, by omega, rfl, HAt.out, HMI.out⟩
      case round =>
       clear HAt HMI
       obtain ⟨j, V2, hkj, hj, hjg, rfl, hAt, hMI⟩ := hrel
       by_cases hjl : j < n
       ·have e3 : IntKind.i64.wrap ((j : Int) + 1) = (j : Int) + 1 := IntWalk.i64_in _ (by omega)
        obtain ⟨gB, cB, CB, hvB, -, -, hBB, hEB⟩ := hMI.m.open (by omega)
        injection hvB with x1 _ x3
        injection x1 with x1
        injection x1 with x1
        subst x1 x3
        obtain ⟨ci, hCi⟩ := hEB i hil
        have HCi := hid (fun w' (hu : Up wr w') => (hBB.up hu).cell i hCi)
        obtain ⟨Ci, bi, ai, ni, di, hBi, hsz, -, -, -⟩ := hMI.m.entry hil hjl
        have hst := hAt.step hki hil hkj hjl
        have f1 := HQ.out.2.2 (k - k) (k - k)
        have f2 := HQ.out.2.2 (i - k) (j - k)
        have f3 := HQ.out.2.2 (i - k) (k - k)
        have f4 := HQ.out.2.2 (k - k) (j - k)
        rw [<- hAt.old (r := k) (c := k) (by omega) (by omega) (by omega) (by omega) (by omega)] at f1
        rw [<- hAt.old (r := i) (c := j) (by omega) (by omega) (by omega) (by omega) (by omega)] at f2
        rw [<- hAt.old (r := i) (c := k) (by omega) (by omega) (by omega) (by omega) (by omega)] at f3
        rw [<- hAt.old (r := k) (c := j) (by omega) (by omega) (by omega) (by omega) (by omega)] at f4
        have HST := hid (fun w' (hu : Up wr w') => hst ▸ rstep_any (hMI.m.up hu) (hMI.q.up hu) hlt hil hlt hjl hn (by omega) hB HQ.out.1 HQ.out.2.1 f1 f2 f3 f4)
        have HSet := hid (hAt.set hki hkj)
        obtain ⟨z, hz⟩ : ∃ z, nxt q M (i - (k + 1)) (j - (k + 1)) = z := ⟨_, rfl⟩
        rw [hz] at HST HSet
        have HMI := hid hMI
        clear hz hst f1 f2 f3 f4 hAt hMI hEB hCi hBB
        go_wp2_with fail
        refine wp_region_sp (n := 70) 12 [50, 51, 52, 53, 54, 55, 56, 57, 58, 59, 60, 61] [SP.is (.slice (some ⟨gA, 0, none⟩) n cA), SP.is (.int .i64 (i : Nat)), SP.is (.pointer (some ⟨gA, i, none⟩)), SP.is (.slice (some ⟨G i, 0, none⟩) n ci), SP.is (.int .i64 (j : Nat)), SP.is (.slice (some ⟨gA, 0, none⟩) n cA), SP.is (.int .i64 (k : Nat)), SP.is (.int .i64 (i : Nat)), SP.is (.int .i64 (j : Nat)), SP.is (.agg #[.bool b0, .slice p0 n0 c0]), SP.of (fun v w1 => Big w1 v z) (fun _ _ _ h hu => h.up hu), SP.is (.pointer (some ⟨G i, j * 2, none⟩)), SP.any] (fun wq => Up wr wq) (by kernel_rfl) (by rfl) (by kernel_rfl) (by kernel_rfl) (fun _ _ h hu => (h).trans hu) (by first | exact Up.refl _ | assumption) (fun ev w9 hS9 i o hne hi hev => ?_) (fun gR wE hq hSE huE => ?_)
        ·have hS1 := hS9
         have hcC := hev.const
         have hcF := hev.func
         have hcG := hev.global
         rcases i with _ | _ | _ | _ | _ | _ | _ | _ | _ | _ | _ | _ | _ | i
         ·obtain rfl := oI hi
          have e0 := hev.other 0 (by kernel_rfl)
          simp [Act.eval] at e0
          exact lV (.slice (some ⟨gA, 0, none⟩) n cA)
         ·obtain rfl := oI hi
          have e6 := hev.other 6 (by kernel_rfl)
          simp [Act.eval] at e6
          exact lV (.int .i64 (i : Nat))
         ·obtain rfl := oI hi
          have e50 : ev (.tmp 50) = (.slice (some ⟨gA, 0, none⟩) n cA) := hev.dep 0 50 (by kernel_rfl)
          have e51 : ev (.tmp 51) = (.int .i64 (i : Nat)) := hev.dep 1 51 (by kernel_rfl)
          exact lV (.pointer (some ⟨gA, i, none⟩))
         ·obtain rfl := oI hi
          have e52 : ev (.tmp 52) = (.pointer (some ⟨gA, i, none⟩)) := hev.dep 2 52 (by kernel_rfl)
          have hcx := HCi.out w9 hS1; exact leavesR_value (u := .slice (some ⟨G i, 0, none⟩) n ci) (by go_simp) rfl
         ·obtain rfl := oI hi
          have e7 := hev.other 7 (by kernel_rfl)
          simp [Act.eval] at e7
          exact lV (.int .i64 (j : Nat))
         ·obtain rfl := oI hi
          have e0 := hev.other 0 (by kernel_rfl)
          simp [Act.eval] at e0
          exact lV (.slice (some ⟨gA, 0, none⟩) n cA)
         ·obtain rfl := oI hi
          have e5 := hev.other 5 (by kernel_rfl)
          simp [Act.eval] at e5
          exact lV (.int .i64 (k : Nat))
         ·obtain rfl := oI hi
          have e6 := hev.other 6 (by kernel_rfl)
          simp [Act.eval] at e6
          exact lV (.int .i64 (i : Nat))
         ·obtain rfl := oI hi
          have e7 := hev.other 7 (by kernel_rfl)
          simp [Act.eval] at e7
          exact lV (.int .i64 (j : Nat))
         ·obtain rfl := oI hi
          have e3 := hev.other 3 (by kernel_rfl)
          simp [Act.eval] at e3
          exact leavesR_value (run_ldBR rfl (by go_simp) (HMI.out.p.up hS1) rfl) rfl
         ·obtain rfl := oI hi
          have e55 : ev (.tmp 55) = (.slice (some ⟨gA, 0, none⟩) n cA) := hev.dep 5 55 (by kernel_rfl)
          have e56 : ev (.tmp 56) = (.int .i64 (k : Nat)) := hev.dep 6 56 (by kernel_rfl)
          have e57 : ev (.tmp 57) = (.int .i64 (i : Nat)) := hev.dep 7 57 (by kernel_rfl)
          have e58 : ev (.tmp 58) = (.int .i64 (j : Nat)) := hev.dep 8 58 (by kernel_rfl)
          have e59 : ev (.tmp 59) = (.agg #[.bool b0, .slice p0 n0 c0]) := hev.dep 9 59 (by kernel_rfl)
          refine leavesR_call ?_ (HST.out _ hS1)
          go_simp
         ·obtain rfl := oI hi
          have e53 : ev (.tmp 53) = (.slice (some ⟨G i, 0, none⟩) n ci) := hev.dep 3 53 (by kernel_rfl)
          have e54 : ev (.tmp 54) = (.int .i64 (j : Nat)) := hev.dep 4 54 (by kernel_rfl)
          exact lV (.pointer (some ⟨G i, j * 2, none⟩))
         ·exact absurd rfl hne
         ·exact absurd (show i + 13 < 13 from (Array.getElem?_eq_some_iff.1 hi).1) (by omega)
        have hS1 := hSE
        have q0 : gR 50 = (.slice (some ⟨gA, 0, none⟩) n cA) := hq 0 50 (by decide) (by kernel_rfl)
        have q1 : gR 51 = (.int .i64 (i : Nat)) := hq 1 51 (by decide) (by kernel_rfl)
        have q2 : gR 52 = (.pointer (some ⟨gA, i, none⟩)) := hq 2 52 (by decide) (by kernel_rfl)
        have q3 : gR 53 = (.slice (some ⟨G i, 0, none⟩) n ci) := hq 3 53 (by decide) (by kernel_rfl)
        have q4 : gR 54 = (.int .i64 (j : Nat)) := hq 4 54 (by decide) (by kernel_rfl)
        have q5 : gR 55 = (.slice (some ⟨gA, 0, none⟩) n cA) := hq 5 55 (by decide) (by kernel_rfl)
        have q6 : gR 56 = (.int .i64 (k : Nat)) := hq 6 56 (by decide) (by kernel_rfl)
        have q7 : gR 57 = (.int .i64 (i : Nat)) := hq 7 57 (by decide) (by kernel_rfl)
        have q8 : gR 58 = (.int .i64 (j : Nat)) := hq 8 58 (by decide) (by kernel_rfl)
        have q9 : gR 59 = (.agg #[.bool b0, .slice p0 n0 c0]) := hq 9 59 (by decide) (by kernel_rfl)
        have q10 : (fun v w1 => Big w1 v z) (gR 60) wE := hq 10 60 (by decide) (by kernel_rfl)
        dsimp only at q10
        obtain ⟨v60, hv60⟩ : ∃ v, gR 60 = v := ⟨_, rfl⟩
        rw [hv60] at q10
        have q11 : gR 61 = (.pointer (some ⟨G i, j * 2, none⟩)) := hq 11 61 (by decide) (by kernel_rfl)
        refine ⟨fun h => absurd h (by decide), fun o ho => ?_⟩
        obtain rfl := oI ho
        simp only [putL, List.map_cons, List.map_nil, q0, q1, q2, q3, q4, q5, q6, q7, q8, q9, hv60, q11, Act.put, pu1, pu2, pu3]
        clear hq hSE q0 q1 q2 q3 q4 q5 q6 q7 q8 q9 q11
        obtain ⟨yb, ya, yn, yc, rfl⟩ := q10.shape
        have hset := MI.set (HMI.out.up hS1 HB0.out) hil hjl HG.out (Nat.lt_succ_self _) (hBi.up hS1) q10
        refine wp_stB2 _ _ rfl rfl rfl (hBi.up hS1) (by omega) ?_
        obtain ⟨wK, hwK⟩ : ∃ y, wE.setRow (G i) (splB Ci (j * 2) [.bool yb, .slice ya yn yc]) = y := ⟨_, rfl⟩
        rw [hwK] at hset ⊢
        clear hwK hS1 huE q10 HST hBi HCi HMI
        go_wp2_with fail
        go_roundg (n - (j + 1))
        case measure => omega
        case rel => exact ⟨j + 1, _, by omega, hjl, Nat.le_refl _, rfl, HSet.out, hset⟩
       ·obtain rfl : j = n := by omega
        have HR2 := hid hAt.row
        have HMI := hid hMI
        clear hAt hMI
        go_wp2_with fail
        go_roundg (j - (i + 1))
        case measure => omega
        case rel => exact ⟨i + 1, V2, by omega, hil, Nat.le_refl _, rfl, HR2.out, HMI.out⟩
     ·obtain rfl : i = n := by omega
      have HLn := hid (show Left i (k + 1) (nxt q M) V1 from HAt.out.all)
      have h00 : V1 k k = m0 := by rw [HAt.out.old (r := k) (c := k) (by omega) (by omega) (by omega) (by omega) (by omega), Nat.sub_self, HM0.out]
      obtain ⟨gB, cB, CB, hvB, -, -, hBB, hEB⟩ := HMI.out.m.open (by omega)
      injection hvB with x1 _ x3
      injection x1 with x1
      injection x1 with x1
      subst x1 x3
      obtain ⟨ck8, hCk8⟩ := hEB k hlt
      have hcx := hBB.cell k hCk8
      obtain ⟨Ck8, bk8, ak8, nk8, dk8, hBk8, -, h1, h2, hbig8⟩ := HMI.out.m.entry hlt hlt
      have HRk8 := hid (fun w' (hB : Blk w' (G k) 66 Ck8) => bigAt_range hB h1 h2)
      rw [h00] at hbig8
      clear h00 h1 h2 hEB hCk8 hBB HAt
      go_wp2_with (first
       | ((with_reducible apply ldB2_P); exact rfl; exact rfl; exact HRk8.out _ hBk8)
       | ((with_reducible apply stB_P); exact rfl; exact rfl; exact HMI.out.p; exact rfl; exact rfl; exact one2 _ _ _ _
          refine wpL_folded (fun wd => MI w base bP (bP + 1) i (.slice (some ⟨gA, 0, none⟩) i cA) G bk8 ak8 nk8 dk8 m0 (.slice p6 LL.length c6) LL V1 wd) (HMI.out.prev HG.out (Nat.lt_succ_self _) HbP.out hbig8) ?_
          rintro w9 h9))
      go_roundg (i - (k + 1))
      case measure => omega
      case rel => exact ⟨k + 1, V1, bk8, ak8, nk8, dk8, LL, hlt, Nat.le_refl _, rfl, HP3.out, by rw [HN2.out]; exact HLn.out, by rw [HN1.out, HN2.out, show i - (k + 1) = s by omega]; exact HD3.out, HL3.out, by rw [HN1.out]; exact h9⟩
   ·have ds : decide (sgn m0 <= 0) = true := by unfold sgn; rw [decide_eq_true]; split <;> (try split) <;> omega
    have hT : LL = T := by have h := HD2.out; rw [if_neg hp, List.append_nil] at h; exact h
    subst hT
    clear HD2
    go_wp2_with (first
     | ((with_reducible apply ldB2_P); exact rfl; exact rfl; exact HRk6.out _ hBk6)
     | (go_at_call 50; (with_reducible refine (HSg.out _ _ hbig6).mono ?_); rintro r w7 ⟨rfl, hu7⟩))
    go_ret
    exact ⟨_, rfl, hu7.below H6.out.u (Nat.le_trans HB0.out H6.out.u.size), (H6.out.l.up hu7).bv⟩
  ·obtain rfl : k = n := by omega
   have hT : L = T := by have h := HDone.out; rw [Nat.sub_self] at h; rw [<- h]; show L = L ++ []; rw [List.append_nil]
   subst hT
   clear HDone HR HLeft HPos
   go_wp2_with fail
   go_ret
   exact ⟨_, rfl, HMI.out.u, HMI.out.l.bv⟩
theorem all_last {s : Nat} {V : Nat -> Nat -> Int} (hl : (mins (s + 1) 1 V).length = s + 1) : ((mins (s + 1) 1 V).all fun x => decide (0 < x)) = decide (0 < zth (mins (s + 1) 1 V) s) := by
 have h := mins_all (s + 1) 1 V
 rw [Bool.eq_iff_iff, List.all_eq_true, decide_eq_true_iff]
 simp only [decide_eq_true_iff]
 rw [h]
 unfold zth
 constructor
 ·rintro (h | ⟨_, h⟩)
  ·omega
  ·exact h
 ·exact fun h => .inr ⟨hl, h⟩
theorem all_short {s : Nat} {V : Nat -> Nat -> Int} (hl : (mins (s + 1) 1 V).length ≠ s + 1) : ((mins (s + 1) 1 V).all fun x => decide (0 < x)) = false := by
 rw [Bool.eq_false_iff, Ne, List.all_eq_true]
 simp only [decide_eq_true_iff]
 rw [mins_all (s + 1) 1 V]
 rintro (h | ⟨h, _⟩)
 ·omega
 ·exact hl h
theorem sgn_gt (z : Int) : decide (0 < sgn z) = decide (0 < z) := by
 unfold sgn
 rw [Bool.eq_iff_iff, decide_eq_true_iff, decide_eq_true_iff]
 split <;> (try split) <;> omega
theorem RE_AM {n : Nat} (l : List Int) : ∀ i j, i < n -> j < n -> RE n l 1 0 i j = AM n l i j := fun i j hi hj => by
 unfold RE
 rw [AM_at hi hj, Int.one_mul, ite_self, Int.add_zero]
set_option maxHeartbeats 4000000 in
theorem rdefinite_any {w : World} {base n B : Nat} {av : Value} {G : Nat -> Nat} {V : Nat -> Nat -> Int} (h : OwnM w base av n n G V) (hn : n <= 8) (hB : B <= 100) (hR : Run B n V) (hb : base <= w.heap.size) :
   Calls Tryz.prog 87 #[av] w fun r w' => r = .returned (.bool ((mins n 1 V).all fun x => decide (0 < x))) /\ Below base w w' := by
 have HMn := hid (rminors_any h hn hB hR hb)
 obtain ⟨pA, cA, rfl⟩ := h.slice
 have HB0 := hid hb
 clear h hR hb hB
 rcases n with _ | s
 ·rw [show ((mins 0 1 V).all fun x => decide (0 < x)) = true from rfl]
  obtain ⟨T, hT⟩ : ∃ T, mins 0 1 V = T := ⟨_, rfl⟩
  rw [hT] at HMn
  clear hT
  go_enter Tryz.func87, Tryz.ntmps87
  go_wp2_with (first
   | (go_at_call 111; (with_reducible refine HMn.out.mono ?_); rintro r w2 ⟨z2, rfl, hB2, hz2⟩; obtain ⟨p2, c2, rfl⟩ := hz2.slice))
  go_ret
  exact ⟨rfl, hB2⟩
 ·have dn : ((s : Int) + 1 == 0) = false := by simp; omega
  by_cases hl : (mins (s + 1) 1 V).length = s + 1
  ·rw [all_last hl]
   have HL := hid hl
   obtain ⟨T, hT⟩ : ∃ T, mins (s + 1) 1 V = T := ⟨_, rfl⟩
   rw [hT] at HMn HL ⊢
   obtain ⟨z, hz⟩ : ∃ z, zth T s = z := ⟨_, rfl⟩
   have HZ := hid hz
   rw [hz, <- sgn_gt]
   have HSg := hid (fun w v (h : Big w v z) => rsign_big h)
   have ei : IntKind.i64.wrap (((s + 1 : Nat) : Int) - 1) = (s : Int) := by rw [show (((s + 1 : Nat) : Int) - 1) = s by omega]; exact IntWalk.i64_in _ (by omega)
   clear hT hl hz
   go_enter Tryz.func87, Tryz.ntmps87
   go_upto_region 2 with (first
    | (go_at_call 111; (with_reducible refine HMn.out.mono ?_); rintro r w2 ⟨z2, rfl, hB2, hz2⟩))
   obtain ⟨g, cap, C, rfl, hcp, hBC, hE⟩ := hz2.open (by rw [HL.out]; omega)
   obtain ⟨b, a, m, c, h1, h2, h3⟩ := hE s (by rw [HL.out]; omega)
   rw [HZ.out] at h3
   have HRk := hid (fun w' (hB : Blk w' g 66 C) => bigAt_range hB h1 h2)
   clear hE h1 h2
   rw [HL.out]
   rw [HL.out] at hcp
   go_wp2_with (first
    | ((with_reducible apply ldB2_P); exact rfl; exact rfl; exact HRk.out _ hBC)
    | (go_at_call 50; (with_reducible refine (HSg.out _ _ h3).mono ?_); rintro r w7 ⟨rfl, hu7⟩))
   go_ret
   exact ⟨rfl, hu7.below hB2 (Nat.le_trans HB0.out hB2.size)⟩
  ·rw [all_short hl]
   have dl : (((mins (s + 1) 1 V).length : Int) == (s : Int) + 1) = false := by simp; omega
   obtain ⟨T, hT⟩ : ∃ T, mins (s + 1) 1 V = T := ⟨_, rfl⟩
   rw [hT] at HMn dl
   clear hT hl
   go_enter Tryz.func87, Tryz.ntmps87
   go_wp2_with (first
    | (go_at_call 111; (with_reducible refine HMn.out.mono ?_); rintro r w2 ⟨z2, rfl, hB2, hz2⟩; obtain ⟨p2, c2, rfl⟩ := hz2.slice))
   go_ret
   exact ⟨rfl, hB2⟩
set_option maxHeartbeats 4000000 in
theorem rDefinite_any {v : Value} {N : Int} {l : List Int} {w : World} (hm : Sm w v N l) :
   Calls Tryz.prog 56 #[v] w fun r w' => r = .returned (.bool (dfV N l)) /\ Up w w' := by
 have HRT := hid (fun w' (hu : Up w w') => rright_any (hm.up hu))
 have HSm := hid hm
 obtain ⟨s0, rfl, ⟨p, cap, rfl, -, -⟩, -, -, -⟩ := hm
 have hB := Blk.new (w := w) (b := w.heap.size) 24 #[.int .i64 N, .slice p l.length cap] rfl
 have hU := Up.alloc w (.cells #[.int .i64 N, .slice p l.length cap] 24)
 obtain ⟨W0, hW0⟩ : ∃ W0, w.alloc (.cells #[.int .i64 N, .slice p l.length cap] 24) = W0 := ⟨_, rfl⟩
 rw [hW0] at hB hU
 cases hR : rt N l with
 | false =>
   rw [hR] at HRT
   rw [show dfV N l = false from by unfold dfV; rw [hR, Bool.and_false]]
   clear hR
   go_enter Tryz.func56, Tryz.ntmps56
   go_wp2_with (first
    | ((with_reducible apply ldM_P); exact rfl; exact rfl; exact hB; exact rfl)
    | (go_at_call 33; (with_reducible refine (HRT.out _ hU).mono ?_); rintro r w1 ⟨rfl, hu1⟩))
   go_ret
   exact ⟨rfl, hU.trans hu1⟩
 | true =>
   rw [hR] at HRT
   obtain ⟨n0, n8, _, _⟩ := rt_spec hR
   obtain ⟨n, rfl⟩ : ∃ n : Nat, N = (n : Int) := ⟨N.toNat, by omega⟩
   have HRW := hid (fun w' (hu : Up w w') => rows_any (HSm.out.up hu) hR (s := 1) (k := 0) (by unfold I64; omega) (by unfold I64; omega))
   have HDF := hid (fun w' b z G (hb : b <= w'.heap.size) (hO : OwnM w' b z n n G (RE n l 1 0)) => rdefinite_any (hO.congr (RE_AM l)) (by omega) (by decide) (run_AM hR) hb)
   have e : dfV n l = ((mins n 1 (AM n l)).all fun x => decide (0 < x)) := by unfold dfV mnR; rw [hR, if_pos rfl, Bool.and_true]; rfl
   rw [<- e] at HDF
   obtain ⟨T, hT⟩ : ∃ T, dfV n l = T := ⟨_, rfl⟩
   rw [hT] at HDF ⊢
   clear e hT hR n0 n8
   go_enter Tryz.func56, Tryz.ntmps56
   go_wp2_with (first
    | ((with_reducible apply ldM_P); exact rfl; exact rfl; (first | exact hB | exact hB1); exact rfl)
    | (go_at_call 33; (with_reducible refine (HRT.out _ hU).mono ?_); rintro r w1 ⟨rfl, hu1⟩; have hB1 := hB.up hu1; have hU1 := hU.trans hu1)
    | (go_at_call 57; (with_reducible refine (HRW.out _ hU1).mono ?_); rintro r w2 ⟨z2, b2, G2, rfl, hu2, hb2, hb3, hO2⟩)
    | (go_at_call 87; (with_reducible refine (HDF.out _ _ _ _ hb3 hO2).mono ?_); rintro r w3 ⟨rfl, hB3⟩))
   go_ret
   exact ⟨rfl, Below.trans (hU1.trans hu2) (Below.mono hB3 (Nat.le_trans hU1.size hb2))⟩
def ps (n k i : Nat) : Nat := if k <= i then i - k else n - k + i
def Gj (n k : Nat) (M V : Nat -> Nat -> Int) : Prop := ∀ i j, i < n -> k <= j -> j <= n -> V i j = M (ps n k i) (j - k)
def stepV (k : Nat) (q : Int) (V : Nat -> Nat -> Int) : Nat -> Nat -> Int := fun i j => if i = k then V i j else if j <= k then (if j = i then V k k else 0) else (V k k * V i j - V i k * V k j).tdiv q
theorem Gj.next {n k : Nat} {q : Int} {M V : Nat -> Nat -> Int} (h : Gj n k M V) (hk : k < n) (hl : ∀ j, nxt q M (n - 1) j = M 0 (j + 1)) : Gj n (k + 1) (nxt q M) (stepV k q V) := fun i j hi h1 h2 => by
 have p0 : ps n k k = 0 := by unfold ps; rw [if_pos (Nat.le_refl _), Nat.sub_self]
 unfold stepV
 by_cases e : i = k
 ·subst e
  rw [if_pos rfl, h i j hi (by omega) h2, p0, show ps n (i + 1) i = n - 1 from by unfold ps; rw [if_neg (by omega)]; omega, hl]
  congr 1
  omega
 ·rw [if_neg e, if_neg (by omega), h k k hk (Nat.le_refl _) (by omega), h i j hi (by omega) h2, h i k hi (Nat.le_refl _) (by omega), h k j hk (by omega) h2, p0, Nat.sub_self]
  unfold nxt chio
  rw [show ps n (k + 1) i + 1 = ps n k i from by unfold ps; split <;> split <;> omega, show j - (k + 1) + 1 = j - k by omega]
theorem Gj.start {n : Nat} {A : Nat -> Nat -> Int} : Gj n 0 A A := fun i j _ _ _ => by unfold ps; rw [if_pos (Nat.zero_le _)]; rfl
theorem Gj.end_ {n : Nat} {M V : Nat -> Nat -> Int} (h : Gj n n M V) {i : Nat} (hi : i < n) : V i n = M i 0 := by
 rw [h i n hi (Nat.le_refl _) (Nat.le_refl _), Nat.sub_self]
 congr 1
 unfold ps
 rw [if_neg (by omega)]
 omega
theorem wp_bsB {o : Oper} {a : Act} {K : Act -> World -> Prop} {Q : Exit -> Act -> World -> Prop} {w : World} {s : Tmp} {b : Bool} {p : Option Addr} {m n : Nat} (ho : o.op = .buildSlice 61 1 #[(0, .tmp s)]) (hs : a.eval (.tmp s) = .agg #[.bool b, .slice p m n])
   (h : K (a.put o.dst (.slice (some ⟨w.heap.size, 0, none⟩) 1 1)) (w.alloc (.cells #[.bool b, .slice p m n] 66))) : o.wp Tryz.prog a w K Q := by
 obtain ⟨i0, hi0, he⟩ := Option.map_eq_some_iff.1 infoBs
 simp only [Prod.mk.injEq] at he
 refine wp_buildSlice 61 66 1 _ ho #[.bool b, .slice p m n] i0 _ undBs hi0 he.1 (by rw [he.2.1]; decide) (by rw [he.2.1]; decide) ?_ h
 simp only [List.map_toArray, List.map_cons, List.map_nil, hs, he.2.1]
 exact fill_oneB _ _ _ _ _
theorem undRF : Tryz.prog.underlying 76 = some (.slice 80) := by kernel_rfl
theorem infoRF : (Tryz.prog.info? 80).map (fun i => (i.zero, i.size, i.bytes)) = some (some (.agg #[.bool false, .slice none 0 0, .bool false, .slice none 0 0]), 4, 64) := by kernel_rfl
def BigF (w : World) (get : Nat -> Option Value) (i : Nat) (z D : Int) : Prop :=
 ∃ b a n c b' a' n' c', get (i * 4) = some (.bool b) /\ get (i * 4 + 1) = some (.slice a n c) /\ get (i * 4 + 2) = some (.bool b') /\ get (i * 4 + 3) = some (.slice a' n' c') /\ Big w (.agg #[.bool b, .slice a n c]) z /\ Big w (.agg #[.bool b', .slice a' n' c']) D
theorem BigF.up {w w' : World} (hu : Up w w') {get : Nat -> Option Value} {i : Nat} {z D : Int} (h : BigF w get i z D) : BigF w' get i z D := by
 obtain ⟨b, a, n, c, b', a', n', c', h1, h2, h3, h4, h5, h6⟩ := h
 exact ⟨b, a, n, c, b', a', n', c', h1, h2, h3, h4, h5.up hu, h6.up hu⟩
def OwnRF (w : World) (base : Nat) (v : Value) (D : Int) (l : List Int) : Prop :=
 ∃ xs : List Value, w.ownsRow base 80 4 v l.length xs /\ ∀ i, i < l.length -> BigF w (fun k => xs[k]?) i (zth l i) D
theorem OwnRF.up {w w' : World} (hu : Up w w') {base : Nat} {v : Value} {D : Int} {l : List Int} (h : OwnRF w base v D l) : OwnRF w' base v D l := by
 obtain ⟨xs, h1, h2⟩ := h
 exact ⟨xs, World.ownsRow.up h1 hu, fun i hi => (h2 i hi).up hu⟩
theorem OwnRF.nil (w : World) (base : Nat) (D : Int) : OwnRF w base (.slice none 0 0) D [] := ⟨[], World.ownsRow_nil _ _ _ _, fun _ hi => absurd hi (Nat.not_lt_zero _)⟩
def RFv (w : World) (v : Value) (D : Int) (l : List Int) : Prop :=
 (l = [] /\ ∃ p c, v = .slice p 0 c) \/ ∃ g cap C, v = .slice (some ⟨g, 0, none⟩) l.length cap /\ l.length <= cap /\ Blk w g 80 C /\ ∀ i, i < l.length -> BigF w (fun k => C[k]?) i (zth l i) D
theorem RFv.up {w w' : World} (hu : Up w w') {v : Value} {D : Int} {l : List Int} (h : RFv w v D l) : RFv w' v D l := by
 rcases h with h | ⟨g, cap, C, h1, h2, h3, h4⟩
 ·exact .inl h
 ·exact .inr ⟨g, cap, C, h1, h2, h3.up hu, fun i hi => (h4 i hi).up hu⟩
theorem RFv.slice {w : World} {v : Value} {D : Int} {l : List Int} (h : RFv w v D l) : ∃ p c, v = .slice p l.length c := by
 rcases h with ⟨rfl, p, c, rfl⟩ | ⟨g, cap, C, rfl, _⟩
 ·exact ⟨p, c, rfl⟩
 ·exact ⟨_, cap, rfl⟩
theorem RFv.open {w : World} {v : Value} {D : Int} {l : List Int} (h : RFv w v D l) (h0 : 0 < l.length) :
   ∃ g cap C, v = .slice (some ⟨g, 0, none⟩) l.length cap /\ l.length <= cap /\ Blk w g 80 C /\ ∀ i, i < l.length -> BigF w (fun k => C[k]?) i (zth l i) D := by
 rcases h with ⟨rfl, _⟩ | h
 ·exact absurd h0 (by decide)
 ·exact h
theorem OwnRF.rfv {w : World} {base : Nat} {v : Value} {D : Int} {l : List Int} (h : OwnRF w base v D l) : RFv w v D l := by
 obtain ⟨xs, ⟨_, ⟨rfl, h1⟩ | ⟨g, cap, cur, rfl, hb, hB, hc, hm, hs, ht⟩⟩, h2⟩ := h
 ·exact .inl ⟨List.length_eq_zero_iff.1 h1, _, _, rfl⟩
 ·refine .inr ⟨g, cap, cur, rfl, hc, hB, fun i hi => ?_⟩
  obtain ⟨b, a, n, c, b', a', n', c', e1, e2, e3, e4, e5, e6⟩ := h2 i hi
  have key : ∀ k u, k < l.length * 4 -> xs[k]? = some u -> cur[k]? = some u := fun k u hk hx => by
   rw [<- ht, List.getElem?_take_of_lt hk, Array.getElem?_toList] at hx; exact hx
  exact ⟨b, a, n, c, b', a', n', c', key _ _ (by omega) e1, key _ _ (by omega) e2, key _ _ (by omega) e3, key _ _ (by omega) e4, e5, e6⟩
theorem OwnRF.slice {w : World} {base : Nat} {v : Value} {D : Int} {l : List Int} (h : OwnRF w base v D l) : ∃ p c, v = .slice p l.length c := h.rfv.slice
theorem Big.grownF {w w' : World} {row : Option Nat} {v : Value} {z : Int} (h : Big w v z) (hg : w.grownBy w' row) (hr : ∀ k, row = some k -> ∃ C, Blk w k 80 C) : Big w' v z := by
 obtain ⟨a, c, h1, a2, c2, h2, h3, h4⟩ := h
 refine ⟨a, c, h1, a2, c2, h2, h3, fun h0 => ?_⟩
 obtain ⟨b, E, h5, h6, h7⟩ := h4 h0
 refine ⟨b, E, h5, ?_, h7⟩
 unfold Blk
 rw [hg.block b h6.lt ?_]
 ·exact h6
 ·intro e
  obtain ⟨C, hC⟩ := hr b e.symm
  unfold Blk at hC h6
  rw [hC] at h6
  simp at h6
theorem wp_bsRF {o : Oper} {a : Act} {K : Act -> World -> Prop} {Q : Exit -> Act -> World -> Prop} {w : World} {s : Tmp} {b b' : Bool} {p p' : Option Addr} {m n m' n' : Nat} (ho : o.op = .buildSlice 76 1 #[(0, .tmp s)]) (hs : a.eval (.tmp s) = .agg #[.bool b, .slice p m n, .bool b', .slice p' m' n'])
   (h : K (a.put o.dst (.slice (some ⟨w.heap.size, 0, none⟩) 1 1)) (w.alloc (.cells #[.bool b, .slice p m n, .bool b', .slice p' m' n'] 80))) : o.wp Tryz.prog a w K Q := by
 obtain ⟨i0, hi0, he⟩ := Option.map_eq_some_iff.1 infoRF
 simp only [Prod.mk.injEq] at he
 refine wp_buildSlice 76 80 1 _ ho #[.bool b, .slice p m n, .bool b', .slice p' m' n'] i0 _ undRF hi0 he.1 (by rw [he.2.1]; decide) (by rw [he.2.1]; decide) ?_ h
 simp only [List.map_toArray, List.map_cons, List.map_nil, hs, he.2.1]
 kernel_rfl
theorem wp_appRF {o : Oper} {a : Act} {K : Act -> World -> Prop} {Q : Exit -> Act -> World -> Prop} {w : World} {base g c : Nat} {v : Value} {l : List Int} {b b' : Bool} {p p' : Option Addr} {m k m' k' : Nat} {z D : Int} (s u : Operand)
   (ho : o.op = .call { callee := .builtin .append, args := #[s, u], argTypes := #[76, 76] })
   (hs : a.eval s = v) (hu : a.eval u = .slice (some ⟨g, 0, none⟩) 1 c) (hown : OwnRF w base v D l) (hV : Blk w g 80 #[.bool b, .slice p m k, .bool b', .slice p' m' k']) (hz : Big w (.agg #[.bool b, .slice p m k]) z) (hD : Big w (.agg #[.bool b', .slice p' m' k']) D) (hbase : base <= w.heap.size) (hl : l.length < 1000000)
   (h : ∀ v' w', OwnRF w' base v' D (l ++ [z]) -> Below base w w' -> K (a.put o.dst v') w') : o.wp Tryz.prog a w K Q := by
 obtain ⟨i0, hi0, he⟩ := Option.map_eq_some_iff.1 infoRF
 simp only [Prod.mk.injEq] at he
 obtain ⟨xs, hx, hE⟩ := hown
 have hlt := World.ownsRow.lt hx
 have hrow : ∀ q, v.ownBlock = some q -> ∃ C, Blk w q 80 C := by
  intro q hq
  obtain ⟨_, ⟨rfl, _⟩ | ⟨g', cap, cur, rfl, _, hB, _⟩⟩ := hx
  ·simp [Value.ownBlock] at hq
  ·simp [Value.ownBlock] at hq; subst hq; exact ⟨cur, hB⟩
 have hxl : xs.length = l.length * 4 := hx.1
 refine wp_append_own (w := w) s u 76 ho base 80 i0 _ 4 64 undRF hi0 he.1 he.2.1 he.2.2 rfl (by decide) v l.length xs hs hx ⟨g, 0, none⟩ 1 c [.bool b, .slice p m k, .bool b', .slice p' m' k'] hu rfl (fun j y hy => by
  rw [Addr.add_mid, Nat.zero_add]; exact hV.cell j (by rw [List.getElem?_toArray]; exact hy)) (by simp [Value.oneCell']) (by unfold maxLen; omega) (by omega) hbase ?_
 intro v' w' h1 h2 _
 refine h v' w' ⟨xs ++ [.bool b, .slice p m k, .bool b', .slice p' m' k'], by rw [List.length_append]; exact h1, fun i hi => ?_⟩ ⟨h2.os, h2.tape, h2.output, h2.size, fun q hq => h2.block q (by omega) fun e => ?_⟩
 ·rw [List.length_append, List.length_singleton] at hi
  by_cases e : i < l.length
  ·obtain ⟨b1, a1, n1, c1, b2, a2, n2, c2, e1, e2, e3, e4, e5, e6⟩ := hE i e
   have ez : zth (l ++ [z]) i = zth l i := by unfold zth; rw [List.getD_eq_getElem?_getD, List.getD_eq_getElem?_getD, List.getElem?_append_left e]
   rw [ez]
   have key : ∀ k u, k < l.length * 4 -> xs[k]? = some u -> (xs ++ [Value.bool b, .slice p m k, .bool b', .slice p' m' k'])[k]? = some u := fun k u hk hx => by rw [List.getElem?_append_left (by omega)]; exact hx
   refine ⟨b1, a1, n1, c1, b2, a2, n2, c2, ?_, ?_, ?_, ?_, e5.grownF h2 hrow, e6.grownF h2 hrow⟩ <;> (dsimp only; rw [List.getElem?_append_left (by omega)]; assumption)
  ·obtain rfl : i = l.length := by omega
   have ez : zth (l ++ [z]) l.length = z := by unfold zth; rw [List.getD_eq_getElem?_getD, List.getElem?_append_right (Nat.le_refl _), Nat.sub_self]; rfl
   rw [ez]
   refine ⟨b, p, m, k, b', p', m', k', ?_, ?_, ?_, ?_, hz.grownF h2 hrow, hD.grownF h2 hrow⟩ <;> (dsimp only; rw [List.getElem?_append_right (by omega), hxl])
   ·rw [Nat.sub_self]; rfl
   ·rw [show l.length * 4 + 1 - l.length * 4 = 1 by omega]; rfl
   ·rw [show l.length * 4 + 2 - l.length * 4 = 2 by omega]; rfl
   ·rw [show l.length * 4 + 3 - l.length * 4 = 3 by omega]; rfl
 ·have := hlt q e.symm
  omega
theorem OwnG.open {w : World} {base n : Nat} {v : Value} {mf G : Nat -> Nat} {V : Nat -> Nat -> Int} (h : OwnG w base v n mf G V) (h0 : 0 < n) :
   ∃ g cap C, v = .slice (some ⟨g, 0, none⟩) n cap /\ base <= g /\ Blk w g 61 C /\ ∀ i, i < n -> ∃ c, C[i]? = some (.slice (some ⟨G i, 0, none⟩) (mf i) c) /\ OwnB w base (.slice (some ⟨G i, 0, none⟩) (mf i) c) (mk (mf i) (V i)) := by
 obtain ⟨xs, Cp, ⟨_, h1 | ⟨g, cap, cur, hv, hb, hB, hc, _, _, ht⟩⟩, h2, h3, _⟩ := h
 ·omega
 ·refine ⟨g, cap, cur, hv, hb, hB, fun i hi => ⟨Cp i, ?_, (h3 i hi).2.2⟩⟩
  have h4 := h2 i hi
  rw [<- ht, List.getElem?_take_of_lt (by omega), Array.getElem?_toList] at h4
  exact h4
theorem sm_ex {w : World} {v : Value} (h : Vw w v [2, 1, 2]) : Sm w (.agg #[.int .i64 2, v]) 2 [2, 1, 2] :=
 ⟨_, rfl, h, by unfold I64; omega, fun i hi => by
  rcases i with _ | _ | _ | i
  ·unfold I64; decide
  ·unfold I64; decide
  ·unfold I64; decide
  ·simp at hi; omega, by simp⟩
theorem sm_nought {w : World} {v : Value} (h : Vw w v [0]) : Sm w (.agg #[.int .i64 1, v]) 1 [0] :=
 ⟨_, rfl, h, by unfold I64; omega, fun i hi => by
  rcases i with _ | i
  ·unfold I64; decide
  ·simp at hi, by simp⟩
theorem in64_pair {a b : Int} (ha : I64 a) (hb' : I64 b) : In64 [a, b] := fun i hi => by
 rcases i with _ | _ | i
 ·exact ha
 ·exact hb'
 ·simp at hi; omega
theorem in64_sole {a : Int} (ha : I64 a) : In64 [a] := fun i hi => by
 rcases i with _ | i
 ·exact ha
 ·simp at hi
set_option linter.unusedSimpArgs false
section
variable {P : Program} {ops : Array Oper} {Q : Exit -> Act -> World -> Prop} {md : Region.Mode}
structure SG where
 p : Value -> World -> Prop
 up : ∀ v w w', p v w -> Up w w' -> p v w'
 b : Option Bool
 hb : ∀ c, b = some c -> ∀ v w, p v w -> v = .bool c
 u : Bool
 hu : u = true -> ∀ w, p undef w
def SG.is (c : Value) : SG := ⟨fun v _ => v = c, fun _ _ _ h _ => h, none, (by simp), false, (by simp)⟩
def SG.tt (c : Bool) : SG := ⟨fun v _ => v = .bool c, fun _ _ _ h _ => h, some c, (fun _ h _ _ e => (by injection h with h; subst h; exact e)), false, (by simp)⟩
def SG.no : SG := ⟨fun v _ => v = undef, fun _ _ _ h _ => h, none, (by simp), true, (by simp)⟩
def SG.any : SG := ⟨fun _ _ => True, fun _ _ _ h _ => h, none, (by simp), true, (by simp)⟩
def SG.of (p : Value -> World -> Prop) (up : ∀ v w w', p v w -> Up w w' -> p v w') : SG := ⟨p, up, none, (by simp), false, (by simp)⟩
end
theorem vfit_false_of {z : Int} (h : vfit z = false) : 72057594037927936 < z \/ z < -72057594037927936 := by
 unfold vfit at h
 have := of_decide_eq_false h
 omega
set_option maxHeartbeats 8000000 in
theorem rfine_any {v vl : Value} {N : Int} {l : List Int} {Ls : List (List Int)} {w : World} (hm : Sm w v N l) (hL : Lv w vl Ls) (hI : ∀ i, In64 (Ls.getD i [])) (hs : ∀ i, (Ls.getD i []).length <= 1000) (h9 : Ls.length <= 9) :
   Calls Tryz.prog 19 #[v, vl] w fun r w' => r = .returned (.int .i64 (ftC N l Ls)) /\ Up w w' := by
 have HR := hid (fun w' (hu : Up w w') => rright_any (hm.up hu))
 obtain ⟨s, rfl, ⟨p, cap, rfl, -, -⟩, -, -, -⟩ := hm
 obtain ⟨pL, cL, rfl, hE⟩ := hL
 obtain ⟨W0, hW0⟩ : ∃ W0, w.alloc (.cells #[.int .i64 N, .slice p l.length cap] 24) = W0 := ⟨_, rfl⟩
 have hB : Blk W0 w.heap.size 24 #[.int .i64 N, .slice p l.length cap] := by rw [<- hW0]; exact Blk.new _ _ rfl
 have hU : Up w W0 := by rw [<- hW0]; exact Up.alloc _ _
 cases hR : rt N l with
 | false =>
   have e : ftC N l Ls = 23 := by unfold ftC; rw [if_neg (by rw [hR]; simp)]
   rw [e]
   rw [hR] at HR
   clear e hR hE hI hs h9
   go_enter Tryz.func19, Tryz.ntmps19
   go_wp2_with (first
    | ((with_reducible apply ldM_P); exact rfl; exact rfl; exact hB; exact rfl)
    | (go_at_call 33; (with_reducible refine (HR.out _ hU).mono ?_); rintro r w1 ⟨rfl, hu1⟩))
   go_ret
   exact ⟨rfl, hU.trans hu1⟩
 | true =>
   rw [hR] at HR
   have HE := hid (fun w' (hu : Up w w') i (hi : i < Ls.length) => show ∃ a s, pL = some a /\ w'.cell? (a.add i) = some s /\ Vw w' s (Ls.getD i []) from by obtain ⟨a, s, h1, h2, h3⟩ := hE i hi; exact ⟨a, s, h1, hu.cellEq h2, h3.up hu⟩)
   have HI := hid hI
   have HS := hid hs
   have HC : Hid (ftC N l Ls = if (∀ i, i < Ls.length -> ((Ls.getD i []).length : Int) = N) then (if ∀ i, i < Ls.length -> (Ls.getD i []).all vfit = true then 0 else 21) else 23) := hid (by unfold ftC; simp only [hR, true_and])
   have hn9 : Ls.length < 1000000 := by omega
   clear hE hI hs hR
   obtain ⟨C, hC⟩ : ∃ C, ftC N l Ls = C := ⟨_, rfl⟩
   rw [hC] at HC ⊢
   clear hC
   go_enter Tryz.func19, Tryz.ntmps19
   go_wp2_with (first
    | ((with_reducible apply ldM_P); exact rfl; exact rfl; exact hB; exact rfl)
    | (go_at_call 33; (with_reducible refine (HR.out _ hU).mono ?_); rintro r w1 ⟨rfl, hu1⟩; replace hB := hB.up hu1; replace hU := hU.trans hu1))
   clear hu1 hW0
   go_loopg [5] Ls.length (fun g ti wr => ∃ i : Nat, i <= Ls.length /\ Ls.length - i <= g /\ ti = .int .i64 (i : Nat) /\ (∀ j, j < i -> ((Ls.getD j []).length : Int) = N) /\ Up w1 wr)
   case atStart => exact ⟨0, Nat.zero_le _, by omega, rfl, fun j hj => absurd hj (Nat.not_lt_zero _), Up.refl _⟩
   case round =>
    obtain ⟨i, hi, hig, rfl, hz, hu⟩ := hrel
    have HZ := hid hz
    clear hz
    have hc0 := (hB.up hu).cell 0 rfl
    by_cases hlt : i < Ls.length
    ·obtain ⟨ad, s, rfl, hcx, hV⟩ := HE.out _ (hU.trans hu) i hlt
     obtain ⟨ps, cs, rfl, -, -⟩ := hV
     have e1 : IntKind.i64.wrap ((i : Int) + 1) = (i : Int) + 1 := IntWalk.i64_in _ (by omega)
     obtain ⟨n, hn⟩ : ∃ n, (Ls.getD i []).length = n := ⟨_, rfl⟩
     have HN := hid hn
     rw [hn] at hcx
     clear hn
     by_cases hne : (n : Int) = N
     ·have d1 : ((n : Int) != N) = false := by rw [hne]; simp
      have HNe := hid hne
      clear hne
      go_wp2_with fail
      refine wp_region_sp (n := 58) 8 [17, 18, 19, 20, 21, 22, 23, 24] [SP.is (.slice (some ad) Ls.length cL), SP.is (.int .i64 (i : Nat)), SP.is (.pointer (some (ad.add i))), SP.is (.slice ps n cs), SP.is (.int .i64 (n : Nat)), SP.is (.pointer (some ⟨w.heap.size, 0, none⟩)), SP.is (.int .i64 N), SP.is (.bool false)] (fun wq => wq.cell? (ad.add i) = some (.slice ps n cs) /\ wq.cell? ⟨w.heap.size, 0, none⟩ = some (.int .i64 N) /\ Up wr wq /\ Below w.heap.size w wq) (by kernel_rfl) (by rfl) (by kernel_rfl) (by kernel_rfl) (fun _ _ h hu => ⟨hu.cell (h.1), hu.cell (h.2.1), (h.2.2.1).trans hu, below_up (h.2.2.2) hu⟩) ⟨(by assumption), (by assumption), (by first | exact Up.refl _ | assumption), gUp⟩ (fun ev w9 hS9 i o hne hi hev => ?_) (fun gR wE hq hSE huE => ?_)
      ·have ⟨hS1, hS2, hS3, hSB⟩ := hS9
       have hcC := hev.const
       have hcF := hev.func
       have hcG := hev.global
       rcases i with _ | _ | _ | _ | _ | _ | _ | _ | i
       ·obtain rfl := oI hi
        have e1 := hev.other 1 (by kernel_rfl)
        simp [Act.eval] at e1
        exact lV (.slice (some ad) Ls.length cL)
       ·obtain rfl := oI hi
        have e5 := hev.other 5 (by kernel_rfl)
        simp [Act.eval] at e5
        exact lV (.int .i64 (i : Nat))
       ·obtain rfl := oI hi
        have e17 : ev (.tmp 17) = (.slice (some ad) Ls.length cL) := hev.dep 0 17 (by kernel_rfl)
        have e18 : ev (.tmp 18) = (.int .i64 (i : Nat)) := hev.dep 1 18 (by kernel_rfl)
        exact lV (.pointer (some (ad.add i)))
       ·obtain rfl := oI hi
        have e19 : ev (.tmp 19) = (.pointer (some (ad.add i))) := hev.dep 2 19 (by kernel_rfl)
        exact leavesR_value (u := .slice ps n cs) (by go_simp) rfl
       ·obtain rfl := oI hi
        have e20 : ev (.tmp 20) = (.slice ps n cs) := hev.dep 3 20 (by kernel_rfl)
        exact lV (.int .i64 (n : Nat))
       ·obtain rfl := oI hi
        have e2 := hev.other 2 (by kernel_rfl)
        simp [Act.eval] at e2
        exact lV (.pointer (some ⟨w.heap.size, 0, none⟩))
       ·obtain rfl := oI hi
        have e22 : ev (.tmp 22) = (.pointer (some ⟨w.heap.size, 0, none⟩)) := hev.dep 5 22 (by kernel_rfl)
        exact leavesR_value (u := .int .i64 N) (by go_simp) rfl
       ·obtain rfl := oI hi
        have e21 : ev (.tmp 21) = (.int .i64 (n : Nat)) := hev.dep 4 21 (by kernel_rfl)
        have e23 : ev (.tmp 23) = (.int .i64 N) := hev.dep 6 23 (by kernel_rfl)
        exact lV (.bool false)
       ·exact absurd (show i + 8 < 8 from (Array.getElem?_eq_some_iff.1 hi).1) (by omega)
      have ⟨hS1, hS2, hS3, hSB⟩ := hSE
      have q0 : gR 17 = (.slice (some ad) Ls.length cL) := hq 0 17 (by decide) (by kernel_rfl)
      have q1 : gR 18 = (.int .i64 (i : Nat)) := hq 1 18 (by decide) (by kernel_rfl)
      have q2 : gR 19 = (.pointer (some (ad.add i))) := hq 2 19 (by decide) (by kernel_rfl)
      have q3 : gR 20 = (.slice ps n cs) := hq 3 20 (by decide) (by kernel_rfl)
      have q4 : gR 21 = (.int .i64 (n : Nat)) := hq 4 21 (by decide) (by kernel_rfl)
      have q5 : gR 22 = (.pointer (some ⟨w.heap.size, 0, none⟩)) := hq 5 22 (by decide) (by kernel_rfl)
      have q6 : gR 23 = (.int .i64 N) := hq 6 23 (by decide) (by kernel_rfl)
      have q7 : gR 24 = (.bool false) := hq 7 24 (by decide) (by kernel_rfl)
      refine ⟨fun _ => ?_, fun o ho => by simp at ho⟩
      simp only [putL, List.map_cons, List.map_nil, q0, q1, q2, q3, q4, q5, q6, q7, Act.put, pu1, pu2, pu3]
      clear hq hSE q0 q1 q2 q3 q4 q5 q6 q7
      clear hS1 hS2 hSB huE
      go_wp2_with fail
      go_roundg (Ls.length - (i + 1))
      case measure => omega
      case rel => exact ⟨i + 1, hlt, Nat.le_refl _, rfl, fun j hj => by
       rcases Nat.lt_succ_iff_lt_or_eq.1 hj with h | h
       ·exact HZ.out j h
       ·rw [h, HN.out]; exact HNe.out, hu.trans hS3⟩
     ·have d1 : ((n : Int) != N) = true := by simpa using hne
      have HC2 : Hid (C = 23) := hid (by rw [HC.out]; exact if_neg fun h => hne (by have := h i hlt; rw [HN.out] at this; exact this))
      clear hne
      go_wp2_with fail
      refine wp_region_sp (n := 58) 8 [17, 18, 19, 20, 21, 22, 23, 24] [SP.is (.slice (some ad) Ls.length cL), SP.is (.int .i64 (i : Nat)), SP.is (.pointer (some (ad.add i))), SP.is (.slice ps n cs), SP.is (.int .i64 (n : Nat)), SP.is (.pointer (some ⟨w.heap.size, 0, none⟩)), SP.is (.int .i64 N), SP.is (.bool true)] (fun wq => wq.cell? (ad.add i) = some (.slice ps n cs) /\ wq.cell? ⟨w.heap.size, 0, none⟩ = some (.int .i64 N) /\ Up wr wq /\ Below w.heap.size w wq) (by kernel_rfl) (by rfl) (by kernel_rfl) (by kernel_rfl) (fun _ _ h hu => ⟨hu.cell (h.1), hu.cell (h.2.1), (h.2.2.1).trans hu, below_up (h.2.2.2) hu⟩) ⟨(by assumption), (by assumption), (by first | exact Up.refl _ | assumption), gUp⟩ (fun ev w9 hS9 i o hne hi hev => ?_) (fun gR wE hq hSE huE => ?_)
      ·have ⟨hS1, hS2, hS3, hSB⟩ := hS9
       have hcC := hev.const
       have hcF := hev.func
       have hcG := hev.global
       rcases i with _ | _ | _ | _ | _ | _ | _ | _ | i
       ·obtain rfl := oI hi
        have e1 := hev.other 1 (by kernel_rfl)
        simp [Act.eval] at e1
        exact lV (.slice (some ad) Ls.length cL)
       ·obtain rfl := oI hi
        have e5 := hev.other 5 (by kernel_rfl)
        simp [Act.eval] at e5
        exact lV (.int .i64 (i : Nat))
       ·obtain rfl := oI hi
        have e17 : ev (.tmp 17) = (.slice (some ad) Ls.length cL) := hev.dep 0 17 (by kernel_rfl)
        have e18 : ev (.tmp 18) = (.int .i64 (i : Nat)) := hev.dep 1 18 (by kernel_rfl)
        exact lV (.pointer (some (ad.add i)))
       ·obtain rfl := oI hi
        have e19 : ev (.tmp 19) = (.pointer (some (ad.add i))) := hev.dep 2 19 (by kernel_rfl)
        exact leavesR_value (u := .slice ps n cs) (by go_simp) rfl
       ·obtain rfl := oI hi
        have e20 : ev (.tmp 20) = (.slice ps n cs) := hev.dep 3 20 (by kernel_rfl)
        exact lV (.int .i64 (n : Nat))
       ·obtain rfl := oI hi
        have e2 := hev.other 2 (by kernel_rfl)
        simp [Act.eval] at e2
        exact lV (.pointer (some ⟨w.heap.size, 0, none⟩))
       ·obtain rfl := oI hi
        have e22 : ev (.tmp 22) = (.pointer (some ⟨w.heap.size, 0, none⟩)) := hev.dep 5 22 (by kernel_rfl)
        exact leavesR_value (u := .int .i64 N) (by go_simp) rfl
       ·obtain rfl := oI hi
        have e21 : ev (.tmp 21) = (.int .i64 (n : Nat)) := hev.dep 4 21 (by kernel_rfl)
        have e23 : ev (.tmp 23) = (.int .i64 N) := hev.dep 6 23 (by kernel_rfl)
        exact lV (.bool true)
       ·exact absurd (show i + 8 < 8 from (Array.getElem?_eq_some_iff.1 hi).1) (by omega)
      have ⟨hS1, hS2, hS3, hSB⟩ := hSE
      have q0 : gR 17 = (.slice (some ad) Ls.length cL) := hq 0 17 (by decide) (by kernel_rfl)
      have q1 : gR 18 = (.int .i64 (i : Nat)) := hq 1 18 (by decide) (by kernel_rfl)
      have q2 : gR 19 = (.pointer (some (ad.add i))) := hq 2 19 (by decide) (by kernel_rfl)
      have q3 : gR 20 = (.slice ps n cs) := hq 3 20 (by decide) (by kernel_rfl)
      have q4 : gR 21 = (.int .i64 (n : Nat)) := hq 4 21 (by decide) (by kernel_rfl)
      have q5 : gR 22 = (.pointer (some ⟨w.heap.size, 0, none⟩)) := hq 5 22 (by decide) (by kernel_rfl)
      have q6 : gR 23 = (.int .i64 N) := hq 6 23 (by decide) (by kernel_rfl)
      have q7 : gR 24 = (.bool true) := hq 7 24 (by decide) (by kernel_rfl)
      refine ⟨fun _ => ?_, fun o ho => by simp at ho⟩
      simp only [putL, List.map_cons, List.map_nil, q0, q1, q2, q3, q4, q5, q6, q7, Act.put, pu1, pu2, pu3]
      clear hq hSE q0 q1 q2 q3 q4 q5 q6 q7
      clear hS1 hS2 hSB huE
      go_wp2_with fail
      go_ret
      exact ⟨by rw [HC2.out]; rfl, (hU.trans hu).trans hS3⟩
    ·obtain rfl : i = Ls.length := by omega
     have HC2 : Hid (C = if ∀ i, i < Ls.length -> (Ls.getD i []).all vfit = true then 0 else 21) := hid (by rw [HC.out]; exact if_pos HZ.out)
     go_wp2_with fail
     obtain ⟨wO, hwO⟩ : ∃ y, wr = y := ⟨_, rfl⟩
     rw [hwO] at hu hc0 ⊢
     clear hwO
     go_loopg [6] Ls.length (fun g ti wr => ∃ i : Nat, i <= Ls.length /\ Ls.length - i <= g /\ ti = .int .i64 (i : Nat) /\ (∀ j, j < i -> (Ls.getD j []).all vfit = true) /\ wr = wO)
     case atStart => exact ⟨0, Nat.zero_le _, by omega, rfl, fun j hj => absurd hj (Nat.not_lt_zero _), rfl⟩
     case round =>
      clear hc0
      obtain ⟨i, hi, hig, rfl, hz, rfl⟩ := hrel
      have HY := hid hz
      clear hz
      by_cases hlt : i < Ls.length
      ·obtain ⟨ad, s, rfl, hcx, hV⟩ := HE.out _ (hU.trans hu) i hlt
       have HV := hid hV
       obtain ⟨ps, cs, rfl, -, -⟩ := hV
       have e1 : IntKind.i64.wrap ((i : Int) + 1) = (i : Int) + 1 := IntWalk.i64_in _ (by omega)
       have hLi := HS.out i
       obtain ⟨x, hx⟩ : ∃ x, Ls.getD i [] = x := ⟨_, rfl⟩
       have HX := hid hx
       rw [hx] at hcx HV hLi
       clear hx
       go_wp2_with fail
       obtain ⟨wI, hwI⟩ : ∃ y, wr = y := ⟨_, rfl⟩
       rw [hwI] at hu hcx HV ⊢
       go_loopg [7] x.length (fun g tk wr => ∃ k : Nat, k <= x.length /\ x.length - k <= g /\ tk = .int .i64 (k : Nat) /\ (∀ j, j < k -> vfit (zth x j) = true) /\ wr = wI)
       case atStart => exact ⟨0, Nat.zero_le _, by omega, rfl, fun j hj => absurd hj (Nat.not_lt_zero _), rfl⟩
       case round =>
        obtain ⟨k, hk, hkg, rfl, hy, rfl⟩ := hrel
        have HK := hid hy
        clear hy
        by_cases hkl : k < x.length
        ·obtain ⟨q', cq', xq, _, hcq⟩ := HV.out
         injection xq with y1 y2 y3
         subst y1 y3
         obtain ⟨a2, rfl, hck⟩ := hcq k hkl
         have e2 : IntKind.i64.wrap ((k : Int) + 1) = (k : Int) + 1 := IntWalk.i64_in _ (by omega)
         clear hcq y2
         obtain ⟨z, hz⟩ : ∃ z, zth x k = z := ⟨_, rfl⟩
         rw [hz] at hck
         have HZz := hid hz
         clear hz
         cases hf : vfit z with
         | true =>
           have Hf := hid hf
           unfold vfit at hf
           have hf := of_decide_eq_true hf
           have d1 : decide ((72057594037927936 : Int) < z) = false := decide_eq_false (by omega)
           have d2 : decide (z < (-72057594037927936 : Int)) = false := decide_eq_false (by omega)
           clear hf
           go_wp2_with fail
           go_roundg (x.length - (k + 1))
           case measure => omega
           case rel => exact ⟨k + 1, hkl, Nat.le_refl _, rfl, fun j hj => by
            rcases Nat.lt_succ_iff_lt_or_eq.1 hj with h | h
            ·exact HK.out j h
            ·rw [h, HZz.out]; exact Hf.out, rfl⟩
         | false =>
           have HC3 : Hid (C = 21) := hid (by
            rw [HC2.out]
            refine if_neg fun h => ?_
            have h1 := List.all_eq_true.1 (h i hlt) (zth x k) (by rw [HX.out, zth_get hkl]; exact List.getElem_mem _)
            rw [HZz.out, hf] at h1
            cases h1)
           by_cases hb : (72057594037927936 : Int) < z
           ·have d1 : decide ((72057594037927936 : Int) < z) = true := decide_eq_true hb
            clear hf hb
            go_wp2_with fail
            go_ret
            exact ⟨by rw [HC3.out]; rfl, hU.trans hu⟩
           ·have d1 : decide ((72057594037927936 : Int) < z) = false := decide_eq_false hb
            have d2 : decide (z < (-72057594037927936 : Int)) = true := decide_eq_true (by have := vfit_false_of hf; omega)
            clear hf hb
            go_wp2_with fail
            go_ret
            exact ⟨by rw [HC3.out]; rfl, hU.trans hu⟩
        ·obtain rfl : k = x.length := by omega
         have hall : x.all vfit = true := List.all_eq_true.2 fun y hy => by
          obtain ⟨j, hj, rfl⟩ := List.mem_iff_getElem.1 hy
          have := HK.out j hj
          rw [zth_get hj] at this
          exact this
         have HA := hid hall
         clear hall
         go_wp2_with fail
         go_roundg (Ls.length - (i + 1))
         case measure => omega
         case rel => exact ⟨i + 1, hlt, Nat.le_refl _, rfl, fun j hj => by
          rcases Nat.lt_succ_iff_lt_or_eq.1 hj with h | h
          ·exact HY.out j h
          ·rw [h, HX.out]; exact HA.out, hwI.symm⟩
      ·obtain rfl : i = Ls.length := by omega
       have HC3 : Hid (C = 0) := hid (by rw [HC2.out]; exact if_pos HY.out)
       go_wp2_with fail
       go_ret
       exact ⟨by rw [HC3.out]; rfl, hU.trans hu⟩
def RExactPost (w : World) (N : Int) (l x : List Int) (r : Ending) (w' : World) : Prop := ∃ z, r = .returned (.tuple #[z, .int .i64 (slC N l x)]) /\ Up w w' /\ RFv w' z (slD N.toNat l) (exL N l x)
theorem rfv_nil (w : World) (D : Int) : RFv w (.slice none 0 0) D [] := .inl ⟨rfl, _, _, rfl⟩
set_option maxHeartbeats 8000000 in
theorem rexact_bad {v xv : Value} {N : Int} {l x : List Int} {w : World} (hm : Sm w v N l) (hx : Vw w xv x) (hI : In64 x) (hs : x.length <= 1000) (hC : slC N l x ≠ 0) :
   Calls Tryz.prog 30 #[v, xv] w (RExactPost w N l x) := by
 have HFi := hid (fun w' (hu : Up w w') => rfine_any ((hm.up hu).up (Up.alloc _ _)) (lv_one (hx.up hu)) (fun i => by rcases i with _ | i; exact hI; exact fun j hj => absurd hj (Nat.not_lt_zero _)) (fun i => by rcases i with _ | i; exact hs; exact Nat.zero_le _) (show 1 <= 9 by decide))
 have HDf := hid (fun w' (hu : Up w w') => rDefinite_any (hm.up hu))
 obtain ⟨px, cx, rfl, -, -⟩ := hx
 obtain ⟨s0, rfl, ⟨p, cap, rfl, -, -⟩, -, -, -⟩ := hm
 obtain ⟨W0, hW0⟩ : ∃ W0, w.alloc (.cells #[.int .i64 N, .slice p l.length cap] 24) = W0 := ⟨_, rfl⟩
 have hB : Blk W0 w.heap.size 24 #[.int .i64 N, .slice p l.length cap] := by rw [<- hW0]; exact Blk.new _ _ rfl
 have hU : Up w W0 := by rw [<- hW0]; exact Up.alloc _ _
 unfold RExactPost
 rw [show exL N l x = [] from if_neg hC]
 by_cases hF : ftC N l [x] = 0
 ·have hD : dfV N l = false := by
   unfold slC at hC
   rw [if_pos hF] at hC
   cases h : dfV N l with
   | false => rfl
   | true => rw [h] at hC; exact absurd rfl hC
  rw [show slC N l x = 30 from by unfold slC; rw [if_pos hF, hD]; rfl]
  rw [hF] at HFi
  rw [hD] at HDf
  clear hF hD hC hI hs
  go_enter Tryz.func30, Tryz.ntmps30
  go_wp2_with (first
   | ((with_reducible apply ldM_P); exact rfl; exact rfl; (first | exact hB | exact hB1); exact rfl)
   | (go_at_call 19; (with_reducible refine (HFi.out _ hU).mono ?_); rintro r w1 ⟨rfl, hu1⟩; have hU1 := hU.trans ((Up.alloc _ _).trans hu1); have hB1 := hB.up ((Up.alloc _ _).trans hu1))
   | (go_at_call 56; (with_reducible refine (HDf.out _ hU1).mono ?_); rintro r w2 ⟨rfl, hu2⟩))
  go_ret2
  exact ⟨_, rfl, hU1.trans hu2, rfv_nil _ _⟩
 ·rw [show slC N l x = ftC N l [x] from by unfold slC; rw [if_neg hF]]
  obtain ⟨C, hC2⟩ : ∃ C, ftC N l [x] = C := ⟨_, rfl⟩
  rw [hC2] at HFi hF ⊢
  have d0 : (C != 0) = true := by simpa using hF
  clear hF hC hI hs hC2
  go_enter Tryz.func30, Tryz.ntmps30
  go_wp2_with (first
   | ((with_reducible apply ldM_P); exact rfl; exact rfl; exact hB; exact rfl)
   | (go_at_call 19; (with_reducible refine (HFi.out _ hU).mono ?_); rintro r w1 ⟨rfl, hu1⟩; have hU1 := hU.trans ((Up.alloc _ _).trans hu1)))
  go_ret2
  exact ⟨_, rfl, hU1, rfv_nil _ _⟩
theorem grown_below {w w' : World} {row b : Nat} (hg : w.grownBy w' (some row)) (hb : b <= row) (hs : b <= w.heap.size) : Below b w w' :=
 ⟨hg.os, hg.tape, hg.output, hg.size, fun k hk => hg.block k (by omega) (fun e => by injection e with e; omega)⟩
theorem run_buildRF (b b' : Bool) (p p' : Option Addr) (m k m' k' : Nat) (w : World) : (Instr.build 80 #[(0, .agg #[.bool b, .slice p m k]), (1, .agg #[.bool b', .slice p' m' k'])]).run Tryz.prog w = .ok (.agg #[.bool b, .slice p m k, .bool b', .slice p' m' k']) w := by kernel_rfl
theorem run_bdRF {o : Oper} {ev : Operand -> Value} {x y : Operand} {b b' : Bool} {p p' : Option Addr} {m k m' k' : Nat} (ho : o.op = .build 80 #[(0, x), (1, y)]) (hx : ev x = .agg #[.bool b, .slice p m k]) (hy : ev y = .agg #[.bool b', .slice p' m' k']) (w : World) :
   (execOp ev o).run Tryz.prog w = .ok (.value (.agg #[.bool b, .slice p m k, .bool b', .slice p' m' k'])) w := by
 unfold execOp
 simp only [ho, List.map_toArray, List.map_cons, List.map_nil, hx, hy, Sem.run_bind, run_buildRF, Result.andThen_ok, Sem.run_pure]
def EXR (w : World) (n bP : Nat) (CS : Array Value) (A : Nat -> Nat -> Int) (t7 : Value) (k : Nat) (wr : World) : Prop :=
 ∃ base G V b0 p0 n0 c0, OwnM wr base t7 n (n + 1) G V /\ Gj n k (gs A k).2 V /\ Blk wr w.heap.size 24 CS /\ Blk wr bP 66 #[.bool b0, .slice p0 n0 c0] /\ Big wr (.agg #[.bool b0, .slice p0 n0 c0]) (gs A k).1 /\ Up w wr
theorem RE_AV {n : Nat} (l x : List Int) : ∀ i j, i < n -> j < n -> RE n l 1 0 i j = AV n l x i j := fun i j hi hj => by
 rw [RE_AM l i j hi hj, AV_AM n l x i j hi hj]
set_option maxHeartbeats 32000000 in
theorem rexact_ok {v xv : Value} {n : Nat} {l x : List Int} {w : World} (hm : Sm w v n l) (hD : Def n l x) (hx : Vw w xv x) (hxl : x.length = n) (hI : In64 x) (hC : slC n l x = 0) :
   Calls Tryz.prog 30 #[v, xv] w (RExactPost w n l x) := by
 have hn := hD.n8
 have hs : x.length <= 1000 := by omega
 have HFi := hid (fun w' (hu : Up w w') => rfine_any ((hm.up hu).up (Up.alloc _ _)) (lv_one (hx.up hu)) (fun i => by rcases i with _ | i; exact hI; exact fun j hj => absurd hj (Nat.not_lt_zero _)) (fun i => by rcases i with _ | i; exact hs; exact Nat.zero_le _) (show 1 <= 9 by decide))
 have HDf := hid (fun w' (hu : Up w w') => rDefinite_any (hm.up hu))
 have HRW := hid (fun w' (hu : Up w w') => rowsG_any (hm.up hu) hD.right (s := 1) (k := 0) (by unfold I64; omega) (by unfold I64; omega))
 have hF0 : ftC n l [x] = 0 /\ dfV n l = true := by
  unfold slC at hC
  by_cases h : ftC n l [x] = 0
  ·rw [if_pos h] at hC
   cases h2 : dfV n l with
   | true => exact ⟨h, rfl⟩
   | false => rw [h2] at hC; exact absurd hC (by decide)
  ·rw [if_neg h] at hC; exact absurd hC h
 rw [hF0.1] at HFi
 rw [hF0.2] at HDf
 have HX := hid (fun i (hi : i < n) w' (hu : Up w w') => show ∃ ad, (∃ px c, xv = .slice (some px) n c /\ ad = px.add i) /\ w'.cell? ad = some (.int .i64 (zth x i)) from by
  obtain ⟨p, c, rfl, -, h⟩ := hx
  obtain ⟨a, rfl, h2⟩ := h i (by omega)
  exact ⟨_, ⟨a, c, by rw [hxl], rfl⟩, hu.cellEq h2⟩)
 have HI := hid (fun i (hi : i < n) => hI i (by omega))
 have HO1 := hid (fun w => of_big 1 (by decide) (by decide) w)
 have HDf2 := hid hD
 have HAV := hid (fun i (hi : i < n) => show AV n l x i n = zth x i from by unfold AV; rw [if_pos hi, if_neg (by omega), if_pos rfl])
 have HRE := hid (RE_AV (n := n) l x)
 unfold RExactPost
 rw [hC, show exL n l x = slL n l x from if_pos hC]
 obtain ⟨px, cx, rfl, -, -⟩ := hx
 obtain ⟨s0, rfl, ⟨p, cap, rfl, -, -⟩, -, -, -⟩ := hm
 obtain ⟨W0, hW0⟩ : ∃ W0, w.alloc (.cells #[.int .i64 n, .slice p l.length cap] 24) = W0 := ⟨_, rfl⟩
 have hB : Blk W0 w.heap.size 24 #[.int .i64 n, .slice p l.length cap] := by rw [<- hW0]; exact Blk.new _ _ rfl
 have hU : Up w W0 := by rw [<- hW0]; exact Up.alloc _ _
 obtain ⟨A, hA⟩ : ∃ A, AV n l x = A := ⟨_, rfl⟩
 rw [hA] at HRE HAV
 have HA := hid hA
 clear hA hF0 hC hD hI hs
 rw [hxl] at *
 go_enter Tryz.func30, Tryz.ntmps30
 go_upto_region 7 with (first
  | ((with_reducible apply ldM_P); exact rfl; exact rfl; (first | exact hB | exact hB1 | exact hB2); exact rfl)
  | (go_at_call 19; (with_reducible refine (HFi.out _ hU).mono ?_); rintro r w1 ⟨rfl, hu1⟩; have hU1 := hU.trans ((Up.alloc _ _).trans hu1); have hB1 := hB.up ((Up.alloc _ _).trans hu1))
  | (go_at_call 56; (with_reducible refine (HDf.out _ hU1).mono ?_); rintro r w2 ⟨rfl, hu2⟩; have hU2 := hU1.trans hu2; have hB2 := hB1.up hu2)
  | (go_at_call 57; (with_reducible refine (HRW.out _ hU2).mono ?_); rintro r w3 ⟨z3, b1, G1, rfl, hu3, hb1, hb2, hO3⟩))
 obtain ⟨pA, cA, rfl⟩ := hO3.slice
 have hO3 := hO3.congr (mf' := fun r => if r < 0 then n + 1 else n) (K := A) (fun i hi => by rw [if_neg (Nat.not_lt_zero _)]) HRE.out
 have hB3 := hB2.up hu3
 have hU3 := hU2.trans hu3
 have hb0 : w.heap.size <= b1 := Nat.le_trans hU2.size hb1
 have HBS := hid (show w.heap.size < b1 from Nat.lt_of_lt_of_le hB2.lt hb1)
 have hxl2 := hxl
 clear hu1 hu2 hu3 hU hU1 hU2 hB hB1 hB2 hW0 HFi HDf HRW hb1 HRE hxl
 go_wp2_with fail
 go_loopg [8] n (fun g ti wr => ∃ (i : Nat) (G : Nat -> Nat), i <= n /\ n - i <= g /\ ti = .int .i64 (i : Nat) /\ OwnG wr b1 (.slice pA n cA) n (fun r => if r < i then n + 1 else n) G A /\ Blk wr w.heap.size 24 #[.int .i64 n, .slice p l.length cap] /\ Up w wr /\ b1 <= wr.heap.size)
 case atStart => exact ⟨0, G1, Nat.zero_le _, by omega, rfl, hO3, hB3, hU3, hb2⟩
 case round =>
  clear hO3 hB3 hU3 hb2
  obtain ⟨i, G, hi, hig, rfl, hO, hb, hu, hbs⟩ := hrel
  have hcc := hb.cell 0 rfl
  by_cases hlt : i < n
  ·have e1 : IntKind.i64.wrap ((i : Int) + 1) = (i : Int) + 1 := IntWalk.i64_in _ (by omega)
   obtain ⟨gA, cA', CA, hvA, hbA, hBA, hEA⟩ := hO.open (by omega)
   injection hvA with x1 _ x3
   subst x1 x3
   obtain ⟨ci, hCi, hOi⟩ := hEA i hlt
   rw [if_neg (Nat.lt_irrefl i)] at hCi hOi
   obtain ⟨mf, hmf⟩ : ∃ mf : Nat -> Nat, (fun r => if r < i then n + 1 else n) = mf := ⟨_, rfl⟩
   have HMi : Hid (mf i = n) := hid (by rw [<- hmf]; exact if_neg (Nat.lt_irrefl i))
   have HMf : Hid (∀ r, (if r = i then n + 1 else mf r) = if r < i + 1 then n + 1 else n) := hid (fun r => by
    rw [<- hmf]
    dsimp only
    by_cases e : r = i
    ·rw [if_pos e, if_pos (by omega)]
    ·rw [if_neg e]
     by_cases e2 : r < i
     ·rw [if_pos e2, if_pos (by omega)]
     ·rw [if_neg e2, if_neg (by omega)])
   rw [hmf] at hO
   obtain ⟨adi, ⟨pxx, cxx, exv, rfl⟩, hcv⟩ := HX.out i hlt _ hu
   injection exv with y1 _ y3
   subst y1 y3
   have hei := HI.out i hlt
   have HOf := hid (fun w => of_big (zth x i) hei.1 hei.2 w)
   have HAi := hid (HAV.out i hlt)
   obtain ⟨zi, hzi⟩ : ∃ z, zth x i = z := ⟨_, rfl⟩
   rw [hzi] at hcv HOf HAi
   have HCi := hid hCi
   have HOi := hid hOi
   have HO := hid hO
   have HBA := hid hBA
   have HBb := hid (show b1 <= G i from (hOi.blk _ rfl).1)
   have HBg := hid hbA
   have HBs := hid hbs
   clear hmf hei hzi hCi hOi hO hEA hbA hbs
   go_wp2_with fail
   clear hcc
   refine opU (S := (fun wq => Blk wq gA 61 CA /\ wq.cell? (pxx.add i) = some (.int .i64 zi) /\ Up wr wq /\ Below w.heap.size w wq)) (req := (fun j => j != 12 && j != 14)) (fun _ _ h hu => ⟨(h.1).up hu, hu.cell (h.2.1), (h.2.2.1).trans hu, below_up (h.2.2.2) hu⟩) ⟨gBlk, (by first | assumption | (apply Blk.cell; exact gBlk; exact rfl)), (by first | exact Up.refl _ | assumption), gUp⟩ (fun wS hSS hSu => ?_)
   have ⟨hS1, hS2, hS3, hSB⟩ := hSS
   refine tkP 0 (some 35) hSu ?_
   refine tkP 1 (some 36) hSu ?_
   refine tkP 2 (some 37) hSu ?_
   refine tkP 3 (some 38) hSu ?_
   refine tkP 4 (some 39) hSu ?_
   refine tkT 5 (some 40) rfl hSu hSS ?_ (hy := fun w' hSw => by (have hc9 := hSw.1.cell i HCi.out; go_simp; exact rfl))
   refine tkP 6 (some 41) hSu ?_
   refine tkP 7 (some 42) hSu ?_
   refine tkP 8 (some 43) hSu ?_
   refine tkT 9 (some 44) rfl hSu hSS ?_ (hy := fun w' hSw => by (have hc9 := hSw.2.1; go_simp; exact rfl))
   refine wpAnyU_callE (i := 10) (d := (some 45)) rfl rfl (by kernel_rfl) (by rfl) hSu.out (fun w' => by go_simp) (fun w' hw' => (HOf.out w')) fun vO wO hwO hRO => ?_
   try simp only [Act.put, pu1, pu2, pu3]
   obtain ⟨ob, oa, on, oc, rfl⟩ := hRO.shape
   refine wpAnyU_one (i := 11) rfl (by kernel_rfl) (by rfl) fun w11 hw11 => ?_
   refine wp_bsB rfl rfl ?_
   refine ⟨fun _ ⟨h1, h2, h3, h4⟩ => ⟨h1.up (Up.alloc _ _), (Up.alloc _ _).cell h2, h3.trans (Up.alloc _ _), below_up h4 (Up.alloc _ _)⟩, ?_⟩
   try simp only [Act.put]
   refine wpAnyU_one (i := 12) rfl (by kernel_rfl) (by rfl) fun w12 hw12 => ?_
   have gU := ((hS3.trans hwO).trans hw11).trans ((Up.alloc w11 (.cells #[.bool ob, .slice oa on oc] 66)).trans hw12)
   have gz := hRO.up (hw11.trans ((Up.alloc w11 (.cells #[.bool ob, .slice oa on oc] 66)).trans hw12))
   have gB := (Blk.new (w := w11) 66 #[.bool ob, .slice oa on oc] rfl).up hw12
   have gb1 : b1 <= w12.heap.size := Nat.le_trans HBs.out gU.size
   refine wp_appRow (base := b1) (l := mk n (A i)) (z := zi) _ _ rfl rfl rfl (HOi.out.up gU) (by rw [mk_len]; omega) (by rw [mk_len]; omega) (bigAt_range0 gB) gz gb1 ?_
   intro g' c' w13 hO13 hg13 hn13
   refine ⟨fun h => by simp at h, ?_⟩
   try simp only [Act.put]
   refine tkP 13 (some 48) hSu ?_
   refine wpAnyU_one (i := 14) rfl (by kernel_rfl) (by rfl) fun w14 hw14 => ?_
   obtain ⟨gP, hfz, ⟨vz, hcz⟩, hgA⟩ := (HO.out.up gU).push hlt gb1 (by rw [HMi.out, HAi.out]; exact hO13) hg13 hn13 hw14
   rw [HMi.out] at gP
   go_simp
   clear hfz hcz
   refine wpAnyU_done (by kernel_rfl) (fun wF huE => ?_) _
   have hgm := grown_below hg13 HBb.out gb1
   have g13 : Up w w13 := Below.trans (hu.trans gU) (Below.mono hgm hb0)
   have gbS := (((hb.up gU).grown hg13 (fun e => by injection e with e; have h1 := HBS.out; have h2 := HBb.out; omega)).up hw14).other ⟨gA, i, none⟩ (.slice (some ⟨g', 0, none⟩) (n + 1) c') (show w.heap.size ≠ gA from by have h1 := HBS.out; omega)
   have gW := Up.trans ((g13.trans hw14).setCell (p := ⟨gA, i, none⟩) (show w.heap.size <= gA by omega) (.slice (some ⟨g', 0, none⟩) (n + 1) c')) huE
   have gO2 := (gP.congr (mf' := fun r => if r < i + 1 then n + 1 else n) (K := A) (fun r _ => HMf.out r) (fun _ _ _ _ => rfl)).up huE
   have gs := Nat.le_trans (Nat.le_trans (Nat.le_trans gb1 hgm.size) hw14.size) (show w14.heap.size <= _ from by have := huE.size; simp at this; exact this)
   replace gbS := gbS.up huE
   clear gP hS1 hS2 hS3 hSB hSS huE hwO hw11 hw12 hw14 gU gz gB hO13 hg13 hn13 hgm g13 hcv hRO
   go_wp2_with fail
   go_roundg (n - (i + 1))
   case measure => omega
   case rel => exact ⟨i + 1, _, hlt, Nat.le_refl _, rfl, gO2, gbS, gW, gs⟩
  ·obtain rfl : n = i := by omega
   have hM := hO.m (m := n + 1) (fun r hr => if_pos hr)
   go_upto_region 12 with (first
    | (go_at_call 25; (with_reducible refine (HO1.out _).mono ?_); rintro r w4 ⟨hu4, v4, rfl, hB4⟩; obtain ⟨b4, a4, n4, c4, rfl⟩ := hB4.shape)
    | ((with_reducible apply stB_P); exact rfl; exact rfl; exact Blk.new _ _ rfl; exact rfl; exact rfl; exact one2 _ _ _ _
       refine wpL_folded (fun wd => Up w4 wd /\ Blk wd w4.heap.size 66 #[.bool b4, .slice a4 n4 c4] /\ Big wd (.agg #[.bool b4, .slice a4 n4 c4]) 1) ⟨gUp, gBlk, (hB4.up (Up.alloc _ _)).setRow (Blk.new _ _ rfl)⟩ ?_
       rintro w5 ⟨hu5, hb5, hB5⟩))
   have hu45 := hu4.trans hu5
   have HbP := hid (show w.heap.size < w4.heap.size from Nat.lt_of_lt_of_le hb.lt hu4.size)
   have hEX : EXR w n w4.heap.size #[.int .i64 n, .slice p l.length cap] A (.slice pA n cA) 0 w5 :=
    ⟨_, _, A, _, _, _, _, hM.up hu45, Gj.start, hb.up hu45, hb5, hB5, hu.trans hu45⟩
   obtain ⟨bP, hbP⟩ : ∃ y, w4.heap.size = y := ⟨_, rfl⟩
   rw [hbP] at hEX HbP ⊢
   clear hM hu4 hu5 hb5 hB5 hB4 hu45 hbP hcc hb hu hO hbs HO1 hb0 HBS
   go_wp2_with fail
   go_loopg [7, 10] n (fun g t7 t10 wr => ∃ k : Nat, k <= n /\ n - k <= g /\ t10 = .int .i64 (k : Nat) /\ EXR w n bP #[.int .i64 n, .slice p l.length cap] A t7 k wr)
   case atStart => exact ⟨0, Nat.zero_le _, by omega, rfl, hEX⟩
   case round =>
    clear hEX
    obtain ⟨k, hk, hkg, rfl, base, G, V, b0, p0, n0, c0, hM, hG, hbS, hbP, hBq, hu⟩ := hrel
    obtain ⟨pB, cB, rfl⟩ := hM.slice
    have hcc := hbS.cell 0 rfl
    by_cases hlk : k < n
    ·have e1 : IntKind.i64.wrap ((k : Int) + 1) = (k : Int) + 1 := IntWalk.i64_in _ (by omega)
     have hsv := HDf2.out.sv k (by omega)
     have hlast := fun j => HDf2.out.last hlk j
     rw [HA.out] at hsv
     simp only [HA.out] at hlast
     obtain ⟨q, hq⟩ : ∃ q, (gs A k).1 = q := ⟨_, rfl⟩
     obtain ⟨M, hMM⟩ : ∃ M, (gs A k).2 = M := ⟨_, rfl⟩
     have HN1 := hid (show (gs A (k + 1)).1 = M 0 0 from by rw [<- hMM]; rfl)
     have HN2 := hid (show (gs A (k + 1)).2 = nxt q M from by rw [<- hMM, <- hq]; rfl)
     rw [HN2.out, hMM] at hlast
     rw [hq] at hsv hBq
     rw [hMM] at hsv hG
     have HQ := hid (show q ≠ 0 /\ q.natAbs < bp 5 /\ ∀ i j, (M i j).natAbs < bp 5 from ⟨Int.ne_of_gt hsv.2.1, hsv.2.2, hsv.entry (by omega)⟩)
     have HGn := hid (hG.next hlk hlast)
     have hVM := fun i j (h1 : i < n) (h2 : k <= j) (h3 : j <= n) => hG i j h1 h2 h3
     have HVb := hid (fun i j (h1 : i < n) (h2 : k <= j) (h3 : j <= n) => show (V i j).natAbs < bp 5 from by rw [hG i j h1 h2 h3]; exact HQ.out.2.2 _ _)
     have HVk := hid (show V k k = M 0 0 from by rw [hG k k hlk (Nat.le_refl _) (by omega), Nat.sub_self]; unfold ps; rw [if_pos (Nat.le_refl _), Nat.sub_self])
     have HSV := hid (fun i j => show stepV k q V i j = if i = k then V i j else if j <= k then (if j = i then V k k else 0) else (V k k * V i j - V i k * V k j).tdiv q from rfl)
     obtain ⟨V', hV'⟩ : ∃ V', stepV k q V = V' := ⟨_, rfl⟩
     rw [hV'] at HGn HSV
     obtain ⟨gA, cA', CA, hvA, -, -, hBA, hEA⟩ := hM.open (by omega)
     injection hvA with x1 _ x3
     subst x1 x3
     have HEA := hid hEA
     have HMa := hid hM
     have HBA := hid hBA
     clear hq hMM hV' hG hVM hlast hsv hM hEA hBA
     go_wp2_with fail
     clear hcc
     obtain ⟨wO, hwO⟩ : ∃ y, wr = y := ⟨_, rfl⟩
     rw [hwO] at HMa HBA hbS hbP hBq hu ⊢
     clear hwO
     have HbS := hid hbS
     have HbPO := hid hbP
     have HBq := hid hBq
     have HuO := hid hu
     clear hbS hbP hBq hu
     go_loopg [11, 12] n (fun g tb ti wr => ∃ (i : Nat) (G' : Nat -> Nat), i <= n /\ n - i <= g /\ ti = .int .i64 (i : Nat) /\ OwnM wr wO.heap.size tb i (n + 1) G' V' /\ (∀ r, r < i -> G' r < wr.heap.size) /\ Up wO wr)
     case atStart => exact ⟨0, fun _ => 0, Nat.zero_le _, by omega, rfl, OwnM.nil _ _ _ _ _, fun _ hr => absurd hr (Nat.not_lt_zero _), Up.refl _⟩
     case round =>
      obtain ⟨i, G', hi, hig, rfl, hOb, hGs, hu⟩ := hrel
      have HGs := hid hGs
      obtain ⟨pT, cT, rfl⟩ := hOb.slice
      have hcc := (HbS.out.up hu).cell 0 rfl
      clear hGs
      by_cases hlt : i < n
      ·have e2 : IntKind.i64.wrap ((i : Int) + 1) = (i : Int) + 1 := IntWalk.i64_in _ (by omega)
       go_wp2_with fail
       clear hcc
       obtain ⟨wI, hwI⟩ : ∃ y, wr = y := ⟨_, rfl⟩
       rw [hwI] at hOb hu HGs ⊢
       clear hwI
       have HOb := hid hOb
       have HuI := hid hu
       clear hOb hu
       go_loopg [13, 14] (n + 1) (fun g tr tj wr => ∃ j : Nat, j <= n + 1 /\ n + 1 - j <= g /\ tj = .int .i64 (j : Nat) /\ OwnB wr wI.heap.size tr (mk j (V' i)) /\ Up wI wr)
       case atStart => exact ⟨0, Nat.zero_le _, by omega, rfl, OwnB.nil _ _, Up.refl _⟩
       case round =>
        obtain ⟨j, hj, hjg, rfl, hE, huj⟩ := hrel
        have hUj := HuI.out.trans huj
        have hcc := (HbS.out.up hUj).cell 0 rfl
        have hszj := huj.size
        by_cases hjl : j <= n
        ·have e3 : IntKind.i64.wrap ((j : Int) + 1) = (j : Int) + 1 := IntWalk.i64_in _ (by omega)
         have HTk : Hid ((mk j (V' i)).length < 1000000) := hid (by rw [mk_len]; omega)
         have HT9 := hid (mk_succ j (V' i))
         have HE := hid hE
         have HUj := hid hUj
         have Huj := hid huj
         have hVij := HSV.out i j
         clear hE hUj
         by_cases hik : i = k
         ·rw [if_pos hik] at hVij
          have HVz := hid hVij
          obtain ⟨ci, hCi⟩ := HEA.out i hlt
          have hcx := (HBA.out.up HUj.out).cell i hCi
          obtain ⟨Ce, be, ae, ne, ce, hBe, -, h1, h2, hbig⟩ := (HMa.out.up HUj.out).entry hlt (show j < n + 1 by omega)
          have HRe := hid (fun w' (hB : Blk w' (G i) 66 Ce) => bigAt_range hB h1 h2)
          have dik : ((i : Int) == (k : Int)) = true := by simp; omega
          have HIK := hid hik
          clear hik
          obtain ⟨z, hz⟩ : ∃ z, V i j = z := ⟨_, rfl⟩
          rw [hz] at HVz hbig
          clear hVij hCi h1 h2 hz huj
          go_wp2_with (first
           | ((with_reducible apply ldB2_P); exact rfl; exact rfl; exact HRe.out _ hBe; done)
           | ((with_reducible apply ldB2_P); exact rfl; exact rfl; exact HRe.out _ hBe)
           | ((with_reducible apply bsB_P); exact rfl)
           | ((with_reducible apply appB (l := mk j (V' i)) (z := z)); exact rfl; exact rfl; exact OwnB.up (Up.alloc _ _) HE.out; exact bigAt_range0 (Blk.new _ _ rfl); exact hbig.up (Up.alloc _ _); (focus (simp; omega)); exact HTk.out; rintro v6 w6 hO6 - hb6))
          go_roundg (n + 1 - (j + 1))
          case measure => omega
          case rel => exact ⟨j + 1, by omega, Nat.le_refl _, rfl, by rw [HT9.out, HVz.out]; exact hO6, Below.trans (Huj.out.trans (Up.alloc _ _)) hb6⟩
         ·rw [if_neg hik] at hVij
          have dik : ((i : Int) == (k : Int)) = false := by simp; omega
          by_cases hjk : j <= k
          ·rw [if_pos hjk] at hVij
           by_cases hji : j = i
           ·rw [if_pos hji] at hVij
            have HVz := hid hVij
            have dji : ((j : Int) != (i : Int)) = false := by simp; omega
            have dji2 : ((j : Int) == (i : Int)) = true := by simp; omega
            have hjk2 : j < k := by omega
            have HJI := hid hji
            clear hji
            obtain ⟨ci, hCi⟩ := HEA.out k hlk
            have hcx := (HBA.out.up HUj.out).cell k hCi
            obtain ⟨Ce, be, ae, ne, ce, hBe, -, h1, h2, hbig⟩ := (HMa.out.up HUj.out).entry hlk (show k < n + 1 by omega)
            have HRe := hid (fun w' (hB : Blk w' (G k) 66 Ce) => bigAt_range hB h1 h2)
            obtain ⟨z, hz⟩ : ∃ z, V k k = z := ⟨_, rfl⟩
            rw [hz] at HVz hbig
            clear hVij hCi h1 h2 hz huj
            go_wp2_with (first
             | ((with_reducible apply ldB2_P); exact rfl; exact rfl; exact HRe.out _ hBe)
             | ((with_reducible apply bsB_P); exact rfl)
             | ((with_reducible apply appB (l := mk j (V' i)) (z := z)); exact rfl; exact rfl; exact OwnB.up (Up.alloc _ _) HE.out; exact bigAt_range0 (Blk.new _ _ rfl); exact hbig.up (Up.alloc _ _); (focus (simp; omega)); exact HTk.out; rintro v6 w6 hO6 - hb6))
            go_roundg (n + 1 - (j + 1))
            case measure => omega
            case rel => exact ⟨j + 1, by omega, Nat.le_refl _, rfl, by rw [HT9.out, HVz.out]; exact hO6, Below.trans (Huj.out.trans (Up.alloc _ _)) hb6⟩
           ·rw [if_neg hji] at hVij
            have HVz := hid hVij
            have dji : ((j : Int) != (i : Int)) = true := by simp; omega
            clear hVij huj
            go_wp2_with (first
             | ((with_reducible apply bsB_P); exact rfl)
             | ((with_reducible apply appB (l := mk j (V' i)) (z := 0)); exact rfl; exact rfl; exact OwnB.up (Up.alloc _ _) HE.out; exact bigAt_range0 (Blk.new _ _ rfl); exact big_zero _; (focus (simp; omega)); exact HTk.out; rintro v6 w6 hO6 - hb6))
            go_roundg (n + 1 - (j + 1))
            case measure => omega
            case rel => exact ⟨j + 1, by omega, Nat.le_refl _, rfl, by rw [HT9.out, HVz.out]; exact hO6, Below.trans (Huj.out.trans (Up.alloc _ _)) hb6⟩
          ·rw [if_neg hjk] at hVij
           have HVz := hid hVij
           have hjk2 : ¬ j < k := by omega
           have HST := hid (fun w' (hu : Up wO w') => rstep_any (HMa.out.up hu) (HBq.out.up hu) hlk hlt (show k < n + 1 by omega) (show j < n + 1 by omega) hn (by omega) (by decide) HQ.out.1 HQ.out.2.1 (HVb.out k k hlk (Nat.le_refl _) (by omega)) (HVb.out i j hlt (by omega) hjl) (HVb.out i k hlt (Nat.le_refl _) (by omega)) (HVb.out k j hlk (by omega) hjl))
           obtain ⟨z, hz⟩ : ∃ z, (V k k * V i j - V i k * V k j).tdiv q = z := ⟨_, rfl⟩
           rw [hz] at HST HVz
           have hbp := HbPO.out.up HUj.out
           clear hVij hz huj
           cases dji : ((j : Int) == (i : Int))
           all_goals
            go_wp2_with (first
             | ((with_reducible apply ldB_P); exact rfl; exact rfl; exact hbp; exact rfl)
             | (go_at_call 58; (with_reducible refine (HST.out _ HUj.out).mono ?_); rintro r w5 ⟨hu5, v5, rfl, hB5⟩; obtain ⟨b5, a5, n5, c5, rfl⟩ := hB5.shape)
             | ((with_reducible apply bsB_P); exact rfl)
             | ((with_reducible apply appB (l := mk j (V' i)) (z := z)); exact rfl; exact rfl; exact OwnB.up (hu5.trans (Up.alloc _ _)) HE.out; exact bigAt_range0 (Blk.new _ _ rfl); exact hB5.up (Up.alloc _ _); (focus (have := hu5.size; simp; omega)); exact HTk.out; rintro v6 w6 hO6 - hb6))
            go_roundg (n + 1 - (j + 1))
            case measure => omega
            case rel => exact ⟨j + 1, by omega, Nat.le_refl _, rfl, by rw [HT9.out, HVz.out]; exact hO6, Below.trans ((Huj.out.trans hu5).trans (Up.alloc _ _)) hb6⟩
        ·obtain rfl : j = n + 1 := by omega
         obtain ⟨pe, ce, rfl⟩ := hE.slice
         obtain ⟨ge, cge, Ce, hve, hbe, -⟩ := hE.open (by rw [mk_len]; omega)
         rw [mk_len] at hve
         injection hve with x1 x2 x3
         subst x1 x3
         have hRB := (hE.rowB (by rw [mk_len]; omega)).1
         have hszu := HuI.out.size
         have Huj := hid huj
         rw [mk_len]
         clear hE huj
         go_wp2_with (first
          | ((with_reducible apply appM (b := wI.heap.size) (r := ge) (m := n + 1) (n := i) (V := V') (G := G')); exact rfl; exact rfl; exact OwnM.up (Huj.out.trans (Up.alloc _ _)) HOb.out; exact (Blk.new _ _ rfl).cell 0 rfl; exact hRB.up (Up.alloc _ _); exact HGs.out; exact hbe; exact hszu; (focus (simp; omega)); (focus omega); rintro v6 w6 hO6 hb6 hG6))
         go_roundg (n - (i + 1))
         case measure => omega
         case rel => exact ⟨i + 1, _, hlt, Nat.le_refl _, rfl, hO6, hG6, Below.trans ((HuI.out.trans Huj.out).trans (Up.alloc _ _)) hb6⟩
      ·obtain rfl : n = i := by omega
       obtain ⟨ck, hCk⟩ := HEA.out k hlk
       have hcx := (HBA.out.up hu).cell k hCk
       obtain ⟨Ck, bk, ak, nk, dk, hBk, -, h1, h2, hbig⟩ := (HMa.out.up hu).entry hlk (show k < n + 1 by omega)
       have HRk := hid (fun w' (hB : Blk w' (G k) 66 Ck) => bigAt_range hB h1 h2)
       rw [HVk.out] at hbig
       obtain ⟨m0, hm0⟩ : ∃ y, M 0 0 = y := ⟨_, rfl⟩
       rw [hm0] at hbig HN1
       have hbp := HbPO.out.up hu
       have hltp := HbPO.out.lt
       have HGp := hid (fun r (hr : r < n) => show G' r ≠ bP from by obtain ⟨_, _, _, h3, _⟩ := hOb; have := (h3 r hr).1; omega)
       have HOb := hid hOb
       have hbs9 := HbS.out.up hu
       have hUw := HuO.out.trans hu
       have hwP := HbP.out
       clear hCk h1 h2 hm0 hOb hu
       go_wp2_with (first
        | ((with_reducible apply ldB2_P); exact rfl; exact rfl; exact HRk.out _ hBk)
        | ((with_reducible apply stB_P); exact rfl; exact rfl; exact hbp; exact rfl; exact rfl; exact one2 _ _ _ _
           refine wpL_folded (fun wd => OwnM wd wO.heap.size (.slice pT n cT) n (n + 1) G' V' /\ Blk wd w.heap.size 24 #[.int .i64 n, .slice p l.length cap] /\ Blk wd bP 66 #[.bool bk, .slice ak nk dk] /\ Big wd (.agg #[.bool bk, .slice ak nk dk]) m0 /\ Up w wd)
            ⟨HOb.out.otherB hbp _ HGp.out, hbs9.row_other _ (by omega), hbp.setRow _, hbig.setRow hbp, below_setRow hUw (by omega) _⟩ ?_
           rintro w9 ⟨h9, hs9, hp9, hb9, hu9⟩))
       go_roundg (n - (k + 1))
       case measure => omega
       case rel => exact ⟨k + 1, hlk, Nat.le_refl _, rfl, wO.heap.size, G', V', bk, ak, nk, dk, h9, by rw [HN2.out]; exact HGn.out, hs9, hp9, by rw [HN1.out]; exact hb9, hu9⟩
    ·obtain rfl : n = k := by omega
     have HEnd := hid (fun i (hi : i < n) => show V i n = slX n l x i from by rw [hG.end_ hi]; unfold slX; rw [HA.out])
     rw [show (gs A n).1 = slD n l from by rw [<- HA.out]; exact HDf2.out.den] at hBq
     have HRv : Hid (∀ (w' : World) (z : Value), RFv w' z (slD n l) (mk n fun i => slX n l x i) -> RFv w' z (slD (n : Int).toNat l) (slL n l x)) := hid (fun _ _ h => h)
     obtain ⟨D, hDD⟩ : ∃ D, slD n l = D := ⟨_, rfl⟩
     obtain ⟨X, hXX⟩ : ∃ X : Nat -> Int, (fun i => slX n l x i) = X := ⟨_, rfl⟩
     have HXe : Hid (∀ i, i < n -> V i n = X i) := hid (fun i hi => by rw [<- hXX]; exact HEnd.out i hi)
     rw [hDD] at hBq
     have HRw : Hid (∀ (w' : World) (z : Value), RFv w' z D (mk n X) -> RFv w' z (slD (n : Int).toNat l) (slL n l x)) := hid (fun w' z h => HRv.out w' z (by rw [hDD, hXX]; exact h))
     have HMa := hid hM
     have HbS := hid hbS
     have HbP2 := hid hbP
     have HBq := hid hBq
     have HuO := hid hu
     clear hDD hXX HEnd HRv hG hM hbS hbP hBq hu
     go_wp2_with fail
     clear hcc
     obtain ⟨wZ, hwZ⟩ : ∃ y, wr = y := ⟨_, rfl⟩
     rw [hwZ] at HMa HbS HbP2 HBq HuO ⊢
     clear hwZ
     go_loopg [15, 16] n (fun g tz ti wr => ∃ i : Nat, i <= n /\ n - i <= g /\ ti = .int .i64 (i : Nat) /\ OwnRF wr wZ.heap.size tz D (mk i X) /\ Up wZ wr)
     case atStart => exact ⟨0, Nat.zero_le _, by omega, rfl, OwnRF.nil _ _ _, Up.refl _⟩
     case round =>
      obtain ⟨i, hi, hig, rfl, hE, hu⟩ := hrel
      have hcc := (HbS.out.up hu).cell 0 rfl
      obtain ⟨pO, cO, rfl⟩ := hE.slice
      by_cases hlt : i < n
      ·have e2 : IntKind.i64.wrap ((i : Int) + 1) = (i : Int) + 1 := IntWalk.i64_in _ (by omega)
       obtain ⟨gA, cA', CA, hvA, -, -, hBA, hEA⟩ := HMa.out.open (by omega)
       injection hvA with x1 _ x3
       subst x1 x3
       obtain ⟨ci, hCi⟩ := hEA i hlt
       obtain ⟨Ce, be, ae, ne, ce, hBe, -, h1, h2, hbig⟩ := (HMa.out.up hu).entry hlt (show n < n + 1 by omega)
       have HRe := hid (fun w' (hB : Blk w' (G i) 66 Ce) => bigAt_range hB h1 h2)
       rw [HXe.out i hlt] at hbig
       have HCi := hid hCi
       have hBAr := hBA.up hu
       have hbSr := HbS.out.up hu
       have hbPr := HbP2.out.up hu
       have hBqr := HBq.out.up hu
       have hUw := HuO.out.trans hu
       have HTk : Hid ((mk i X).length < 1000000) := hid (by rw [mk_len]; omega)
       have HT9 := hid (mk_succ i X)
       have HE := hid hE
       have HZs := hid hu.size
       have hnn : (n : Int) < (n : Int) + 1 := by omega
       have Hu := hid hu
       obtain ⟨z, hz⟩ : ∃ z, X i = z := ⟨_, rfl⟩
       rw [hz] at hbig HT9
       clear h1 h2 hz hCi hBA hEA hE hu
       go_wp2_with fail
       clear hcc
       refine opU (S := (fun wq => Blk wq gA 61 CA /\ Blk wq (G i) 66 Ce /\ Blk wq w.heap.size 24 #[.int .i64 n, .slice p l.length cap] /\ Blk wq bP 66 #[.bool b0, .slice p0 n0 c0] /\ Up wr wq /\ Below w.heap.size w wq)) (req := (fun j => j != 12)) (fun _ _ h hu => ⟨(h.1).up hu, (h.2.1).up hu, (h.2.2.1).up hu, (h.2.2.2.1).up hu, (h.2.2.2.2.1).trans hu, below_up (h.2.2.2.2.2) hu⟩) ⟨gBlk, gBlk, gBlk, gBlk, (by first | exact Up.refl _ | assumption), gUp⟩ (fun wS hSS hSu => ?_)
       have ⟨hS1, hS2, hS3, hS4, hS5, hSB⟩ := hSS
       refine tkP 0 (some 141) hSu ?_
       refine tkP 1 (some 142) hSu ?_
       refine tkP 2 (some 143) hSu ?_
       refine tkP 3 (some 144) hSu ?_
       refine tkT 4 (some 145) rfl hSu hSS ?_ (hy := fun w' hSw => by (have hc9 := hSw.1.cell i HCi.out; go_simp; exact rfl))
       refine tkP 5 (some 146) hSu ?_
       refine tkT 6 (some 147) rfl hSu hSS ?_ (hy := fun w' hSw => by (have hc9 := hSw.2.2.1.cell 0 rfl; go_simp; exact rfl))
       refine tkP 7 (some 148) hSu ?_
       refine tkT 8 (some 149) rfl hSu hSS ?_ (hy := fun w' hSw => run_ldB2 rfl rfl (HRe.out _ hSw.2.1))
       refine tkT 9 (some 150) rfl hSu hSS ?_ (hy := fun w' hSw => run_ldB rfl rfl hSw.2.2.2.1 rfl)
       refine tkO 10 (some 151) rfl hSu ?_ (hy := fun w' => run_bdRF rfl rfl rfl _)
       refine wpAnyU_one (i := 11) rfl (by kernel_rfl) (by rfl) fun w11 hw11 => ?_
       refine wp_bsRF rfl rfl ?_
       refine ⟨fun _ ⟨h1, h2, h3, h4, h5, h6⟩ => ⟨h1.up (Up.alloc _ _), h2.up (Up.alloc _ _), h3.up (Up.alloc _ _), h4.up (Up.alloc _ _), h5.trans (Up.alloc _ _), below_up h6 (Up.alloc _ _)⟩, ?_⟩
       try simp only [Act.put]
       refine wpAnyU_one (i := 12) rfl (by kernel_rfl) (by rfl) fun w12 hw12 => ?_
       have ga := (Up.alloc w11 (.cells #[.bool be, .slice ae ne ce, .bool b0, .slice p0 n0 c0] 80)).trans hw12
       have gU := (hS5.trans hw11).trans ga
       have gB := (Blk.new (w := w11) 80 #[.bool be, .slice ae ne ce, .bool b0, .slice p0 n0 c0] rfl).up hw12
       refine wp_appRF (base := wZ.heap.size) (l := mk i X) (z := z) (D := D) _ _ rfl rfl rfl (HE.out.up gU) gB (hbig.up gU) (hBqr.up gU) (Nat.le_trans HZs.out gU.size) HTk.out ?_
       intro v13 w13 hO13 hb13
       refine ⟨fun h => by simp at h, ?_⟩
       try simp only [Act.put]
       refine tkP 13 (some 15) hSu ?_
       refine wpAnyU_done (by kernel_rfl) (fun wF huE => ?_) _
       have gO := hO13.up huE
       have gW := Up.trans (Below.trans (Hu.out.trans gU) hb13) huE
       clear hS1 hS2 hS3 hS4 hS5 hSB hSS huE hw11 hw12 ga gU gB hO13 hb13 hBAr hbSr hbPr hBqr hUw
       go_wp2_with fail
       go_roundg (n - (i + 1))
       case measure => omega
       case rel => exact ⟨i + 1, hlt, Nat.le_refl _, rfl, by rw [HT9.out]; exact gO, gW⟩
      ·obtain rfl : n = i := by omega
       go_wp2_with fail
       go_ret2
       exact ⟨_, rfl, HuO.out.trans hu, HRw.out _ _ hE.rfv⟩
theorem rr_floor {s d : Int} (hd : 0 < d) : s / d = if s.tmod d < 0 then s.tdiv d - 1 else s.tdiv d := by
 have h1 := Int.mul_tdiv_add_tmod s d
 have h2 := Int.tmod_lt_of_pos s hd
 have h3 : -d < s.tmod d := by
  have := Int.tmod_lt_of_pos (-s) hd
  rw [Int.neg_tmod] at this
  omega
 generalize s.tdiv d = q at *
 generalize s.tmod d = r at *
 split
 ·rw [<- h1, show d * q + r = (d + r) + d * (q - 1) by rw [Int.mul_sub]; omega, Int.add_mul_ediv_left _ _ (by omega), Int.ediv_eq_zero_of_lt (by omega) (by omega)]
  omega
 ·rw [<- h1, Int.add_comm, Int.add_mul_ediv_left _ _ (by omega), Int.ediv_eq_zero_of_lt (by omega) (by omega)]
  omega
set_option maxHeartbeats 16000000 in
theorem rround_any {x y : Int} {va vb : Value} {w : World} {B : Nat} (ha : Big w va x) (hb : Big w vb y) (hy : 0 < y) (hB : B <= 100) (bx : x.natAbs < bp B) (bY : y.natAbs < bp B) :
   Calls Tryz.prog 31 #[va, vb] w fun r w' => Up w w' /\ ∃ v, r = .returned v /\ Big w' v ((2 * x + y) / (2 * y)) := by
 obtain ⟨p, a, n, ca, rfl⟩ := ha.shape
 obtain ⟨q, b, m, cb, rfl⟩ := hb.shape
 have e1 : bp (B + 1) = bp B * 18446744073709551616 := bp_succ B
 have p1 : (2 * x).natAbs < bp (B + 1) := by omega
 have p2 : (2 * x + y).natAbs < bp (B + 1) := by omega
 have p3 : (2 * y).natAbs < bp (B + 1) := by omega
 have HB12 : Hid ((2 : Int).natAbs < bp 1 /\ (1 : Int).natAbs < bp 1) := hid (by rw [show bp 1 = 18446744073709551616 from by rw [bp_succ, bp_zero]]; exact ⟨by decide, by decide⟩)
 have nT := nl_bp (k := 1) (z := 2) (by omega) HB12.out.1
 have nO := nl_bp (k := 1) (z := 1) (by omega) HB12.out.2
 have nX := nl_bp (k := B) (by omega) bx
 have nY := nl_bp (k := B) (by omega) bY
 have n1 := nl_bp (k := B + 1) (by omega) p1
 have n2 := nl_bp (k := B + 1) (by omega) p2
 have n3 := nl_bp (k := B + 1) (by omega) p3
 have HO2 := hid (fun w => of_big 2 (by decide) (by decide) w)
 have HO1 := hid (fun w => of_big 1 (by decide) (by decide) w)
 have HM1 := hid (fun (va vb : Value) (w : World) (ha : Big w va 2) (hb : Big w vb x) => mul_big ha hb nT nX)
 have HA1 := hid (fun (va vb : Value) (w : World) (ha : Big w va (2 * x)) (hb : Big w vb y) => add_big ha hb n1 nY)
 have HM2 := hid (fun (va vb : Value) (w : World) (ha : Big w va 2) (hb : Big w vb y) => mul_big ha hb nT nY)
 have HDv := hid (fun (va vb : Value) (w : World) (ha : Big w va (2 * x + y)) (hb : Big w vb (2 * y)) => div_big2 ha hb n2 n3 (by omega))
 have HFl := hid (rr_floor (s := 2 * x + y) (d := 2 * y) (by omega))
 have nQ : nl ((2 * x + y).tdiv (2 * y)).natAbs < 50000 := by
  have h1 : ((2 * x + y).tdiv (2 * y)).natAbs <= (2 * x + y).natAbs := by rw [Int.natAbs_tdiv]; exact Nat.div_le_self _ _
  have h2 := nl_le (Nat.lt_of_le_of_lt h1 (lt_bp_nl _))
  omega
 have HSg := hid (fun (v : Value) (w : World) (h : Big w v ((2 * x + y).tmod (2 * y))) => rsign_big h)
 have HSb := hid (fun (va vb : Value) (w : World) (ha : Big w va ((2 * x + y).tdiv (2 * y))) (hb : Big w vb 1) => sub_big ha hb nQ nO)
 rw [HFl.out]
 obtain ⟨x2, hx2⟩ : ∃ z, 2 * x = z := ⟨_, rfl⟩
 obtain ⟨y2, hy2⟩ : ∃ z, 2 * y = z := ⟨_, rfl⟩
 rw [hx2] at HM1 HA1 HDv HSb HSg ⊢
 rw [hy2] at HM2 HDv HSb HSg ⊢
 obtain ⟨s, hs⟩ : ∃ z, x2 + y = z := ⟨_, rfl⟩
 rw [hs] at HA1 HDv HSb HSg ⊢
 obtain ⟨t, ht⟩ : ∃ z, s.tdiv y2 = z := ⟨_, rfl⟩
 rw [ht] at HDv HSb ⊢
 obtain ⟨u, hu0⟩ : ∃ z, s.tmod y2 = z := ⟨_, rfl⟩
 rw [hu0] at HDv HSg ⊢
 have HSv : Hid ((if u < 0 then t - 1 else t) = if decide (sgn u < 0) = true then t - 1 else t) := hid (by
  have : (sgn u < 0) ↔ u < 0 := by
   unfold sgn
   split
   ·simp [*]
   ·split <;> simp [*]
  simp only [decide_eq_true_eq, this])
 rw [HSv.out]
 obtain ⟨sg, hsg⟩ : ∃ sg, decide (sgn u < 0) = sg := ⟨_, rfl⟩
 rw [hsg]
 obtain ⟨RS, hRS⟩ : ∃ z, (if sg = true then t - 1 else t) = z := ⟨_, rfl⟩
 rw [hRS]
 have HRS := hid hRS
 clear HSv hRS
 clear hx2 hy2 hs ht hu0 HFl nQ n1 n2 n3 nX nY nT nO p1 p2 p3 e1 bx bY hB hy
 obtain ⟨W0, hW0⟩ : ∃ W0, w.alloc (.cells #[.bool p, .slice a n ca] 66) = W0 := ⟨_, rfl⟩
 have hB0 : Blk W0 w.heap.size 66 #[.bool p, .slice a n ca] := by rw [<- hW0]; exact Blk.new _ _ rfl
 have hU0 : Up w W0 := by rw [<- hW0]; exact Up.alloc _ _
 have hs0 : W0.heap.size = w.heap.size + 1 := by rw [<- hW0]; simp
 obtain ⟨W1, hW1⟩ : ∃ W1, W0.alloc (.cells #[.bool q, .slice b m cb] 66) = W1 := ⟨_, rfl⟩
 have hB1 : Blk W1 (w.heap.size + 1) 66 #[.bool q, .slice b m cb] := by rw [<- hW1]; exact Blk.new _ _ hs0.symm
 have hU1 : Up W0 W1 := by rw [<- hW1]; exact Up.alloc _ _
 have hs1 : W1.heap.size = w.heap.size + 1 + 1 := by rw [<- hW1]; simp [hs0]
 obtain ⟨W2, hW2⟩ : ∃ W2, W1.alloc (.cells #[.bool false, .slice none 0 0] 66) = W2 := ⟨_, rfl⟩
 have hB2 : Blk W2 (w.heap.size + 1 + 1) 66 #[.bool false, .slice none 0 0] := by rw [<- hW2]; exact Blk.new _ _ hs1.symm
 have hU2 : Up W1 W2 := by rw [<- hW2]; exact Up.alloc _ _
 go_enter Tryz.func31, Tryz.ntmps31
 have hU3 : Up w W2 := (hU0.trans hU1).trans hU2
 go_upto_region 2 with (first
  | (go_at_call 25; (with_reducible refine (HO2.out _).mono ?_); rintro e wO ⟨huO, u, rfl, hBO⟩; obtain ⟨qo, ao, no, co, rfl⟩ := hBO.shape)
  | ((with_reducible apply stB_P); exact rfl; exact rfl; exact Blk.new _ _ rfl; exact rfl; exact rfl; exact one2 _ _ _ _
     refine wpL_folded (fun wd => Up W2 wd /\ Blk wd wO.heap.size 66 #[.bool qo, .slice ao no co] /\ Big wd (.agg #[.bool qo, .slice ao no co]) 2) ⟨below_setRow (huO.trans (Up.alloc _ _)) huO.size _, Blk.setRow (Blk.new _ _ rfl) _, big_set (Blk.new _ _ rfl) (hBO.up (Up.alloc _ _))⟩ ?_
     rintro w3 ⟨hu3, hB3, hBO3⟩))
 have hU4 := hU3.trans hu3
 have hBa := ((hB0.up hU1).up hU2).up hu3
 have hBb := (hB1.up hU2).up hu3
 have hBc := hB2.up hu3
 have hz3 := hu3.size
 clear hW0 hW1 hW2 hU0 hU1 hU2 hB0 hB1 hB2 hU3 huO hBO
 refine wp_region_sp2 (n := 28) 14 15 11 12 13 6 7 [10, 11, 12, 13, 14, 15, 16, 17, 18, 9, 19, 20, 6, 7] [SP.is (.agg #[.bool qo, .slice ao no co]), SP.is (.agg #[.bool p, .slice a n ca]), SP.of (fun v w1 => Big w1 v x2) (fun _ _ _ h hu => h.up hu), SP.is (.agg #[.bool q, .slice b m cb]), SP.of (fun v w1 => Big w1 v s) (fun _ _ _ h hu => h.up hu), SP.is (.agg #[.bool qo, .slice ao no co]), SP.is (.agg #[.bool q, .slice b m cb]), SP.of (fun v w1 => Big w1 v y2) (fun _ _ _ h hu => h.up hu), SP.of (fun v w1 => ∃ b1 a1 n1 c1 b2 a2 n2 c2, v = .tuple #[.agg #[.bool b1, .slice a1 n1 c1], .agg #[.bool b2, .slice a2 n2 c2]] /\ Big w1 (.agg #[.bool b1, .slice a1 n1 c1]) t /\ Big w1 (.agg #[.bool b2, .slice a2 n2 c2]) u) (fun _ _ _ h hu => (by obtain ⟨b1, a1, n1, c1, b2, a2, n2, c2, h1, h2, h3⟩ := h; exact ⟨b1, a1, n1, c1, b2, a2, n2, c2, h1, h2.up hu, h3.up hu⟩)), SP.of (fun v w1 => ∃ b1 a1 n1 c1 b2 a2 n2 c2, v = .tuple #[.agg #[.bool b1, .slice a1 n1 c1], .agg #[.bool b2, .slice a2 n2 c2]] /\ Big w1 (.agg #[.bool b1, .slice a1 n1 c1]) t /\ Big w1 (.agg #[.bool b2, .slice a2 n2 c2]) u) (fun _ _ _ h hu => (by obtain ⟨b1, a1, n1, c1, b2, a2, n2, c2, h1, h2, h3⟩ := h; exact ⟨b1, a1, n1, c1, b2, a2, n2, c2, h1, h2.up hu, h3.up hu⟩)), SP.of (fun v w1 => Big w1 v t) (fun _ _ _ h hu => h.up hu), SP.of (fun v w1 => Big w1 v u) (fun _ _ _ h hu => h.up hu), SP.of (fun v w1 => ∃ b, v = .pointer (some ⟨b, 0, none⟩) /\ w3.heap.size <= b /\ Blk w1 b 66 #[.bool false, .slice none 0 0]) (fun _ _ _ h hu => h.imp fun _ k => ⟨k.1, k.2.1, k.2.2.up hu⟩), SP.of (fun v w1 => ∃ b, v = .pointer (some ⟨b, 0, none⟩) /\ w3.heap.size <= b /\ Blk w1 b 66 #[.bool false, .slice none 0 0]) (fun _ _ _ h hu => h.imp fun _ k => ⟨k.1, k.2.1, k.2.2.up hu⟩), SP.any, SP.any] (fun wq => Blk wq w.heap.size 66 #[.bool p, .slice a n ca] /\ Blk wq (w.heap.size + 1) 66 #[.bool q, .slice b m cb] /\ Blk wq wO.heap.size 66 #[.bool qo, .slice ao no co] /\ Big wq (.agg #[.bool qo, .slice ao no co]) 2 /\ Up w wq /\ Up w3 wq /\ Below w.heap.size w wq) (by kernel_rfl) (by rfl) (by kernel_rfl) (by kernel_rfl) (fun _ _ h hu => ⟨(h.1).up hu, (h.2.1).up hu, (h.2.2.1).up hu, (h.2.2.2.1).up hu, (h.2.2.2.2.1).trans hu, (h.2.2.2.2.2.1).trans hu, below_up (h.2.2.2.2.2.2) hu⟩) ⟨(by first | assumption | exact gBlk), (by first | assumption | exact gBlk), (by first | assumption | exact gBlk), (by assumption), (by first | exact Up.refl _ | assumption), (by first | exact Up.refl _ | assumption), gUp⟩ ⟨fun i o hi => ⟨by rintro rfl; obtain rfl := oI hi; rfl, by rintro rfl; obtain rfl := oI hi; rfl⟩, (by decide), (fun i v w hi h => by rcases hi with rfl | rfl <;> (obtain ⟨b, rfl, _, h2⟩ := h; exact ⟨b, rfl, h2.lt⟩)), (fun i o ev w hi hk => by rcases hk with rfl | rfl <;> (obtain rfl := oI hi; exact ⟨w.alloc (.cells #[.bool false, .slice none 0 0] 66), by go_simp⟩))⟩ (fun ev w9 hS9 i o hne1 hne2 hi hev => ?_) (fun gR wE hq hJ hSE huE o1 o2 ox ho1 ho2 hox => ?_)
 ·have ⟨hS1, hS2, hS3, hS4, hS5, hS6, hSB⟩ := hS9
  have hcC := hev.const
  have hcF := hev.func
  have hcG := hev.global
  rcases i with _ | _ | _ | _ | _ | _ | _ | _ | _ | _ | _ | _ | _ | _ | _ | _ | i
  ·obtain rfl := oI hi
   have e5 := hev.other 5 (by kernel_rfl)
   simp [Act.eval] at e5
   exact leavesR_value (run_ldBR rfl (by go_simp) hS3 rfl) rfl
  ·obtain rfl := oI hi
   have e2 := hev.other 2 (by kernel_rfl)
   simp [Act.eval] at e2
   exact leavesR_value (run_ldBR rfl (by go_simp) hS1 rfl) rfl
  ·obtain rfl := oI hi
   have e10 : ev (.tmp 10) = (.agg #[.bool qo, .slice ao no co]) := hev.dep 0 10 (by kernel_rfl)
   have e11 : ev (.tmp 11) = (.agg #[.bool p, .slice a n ca]) := hev.dep 1 11 (by kernel_rfl)
   refine leavesR_call ?_ (HM1.out _ _ _ (e10 ▸ hS4) (e11 ▸ ha.up hS5))
   go_simp
  ·obtain rfl := oI hi
   have e3 := hev.other 3 (by kernel_rfl)
   simp [Act.eval] at e3
   exact leavesR_value (run_ldBR rfl (by go_simp) hS2 rfl) rfl
  ·obtain rfl := oI hi
   have e12 : (fun v w1 => Big w1 v x2) (ev (.tmp 12)) w9 := hev.dep 2 12 (by kernel_rfl)
   dsimp only at e12
   obtain ⟨v12, hv12⟩ : ∃ v, ev (.tmp 12) = v := ⟨_, rfl⟩
   rw [hv12] at e12
   have e13 : ev (.tmp 13) = (.agg #[.bool q, .slice b m cb]) := hev.dep 3 13 (by kernel_rfl)
   refine leavesR_call ?_ (HA1.out _ _ _ e12 (e13 ▸ hb.up hS5))
   go_simp
  ·obtain rfl := oI hi
   have e5 := hev.other 5 (by kernel_rfl)
   simp [Act.eval] at e5
   exact leavesR_value (run_ldBR rfl (by go_simp) hS3 rfl) rfl
  ·obtain rfl := oI hi
   have e3 := hev.other 3 (by kernel_rfl)
   simp [Act.eval] at e3
   exact leavesR_value (run_ldBR rfl (by go_simp) hS2 rfl) rfl
  ·obtain rfl := oI hi
   have e15 : ev (.tmp 15) = (.agg #[.bool qo, .slice ao no co]) := hev.dep 5 15 (by kernel_rfl)
   have e16 : ev (.tmp 16) = (.agg #[.bool q, .slice b m cb]) := hev.dep 6 16 (by kernel_rfl)
   refine leavesR_call ?_ (HM2.out _ _ _ (e15 ▸ hS4) (e16 ▸ hb.up hS5))
   go_simp
  ·obtain rfl := oI hi
   have e14 : (fun v w1 => Big w1 v s) (ev (.tmp 14)) w9 := hev.dep 4 14 (by kernel_rfl)
   dsimp only at e14
   obtain ⟨v14, hv14⟩ : ∃ v, ev (.tmp 14) = v := ⟨_, rfl⟩
   rw [hv14] at e14
   have e17 : (fun v w1 => Big w1 v y2) (ev (.tmp 17)) w9 := hev.dep 7 17 (by kernel_rfl)
   dsimp only at e17
   obtain ⟨v17, hv17⟩ : ∃ v, ev (.tmp 17) = v := ⟨_, rfl⟩
   rw [hv17] at e17
   refine leavesR_call ?_ (HDv.out _ _ _ e14 e17)
   go_simp
  ·obtain rfl := oI hi
   have e18 : (fun v w1 => ∃ b1 a1 n1 c1 b2 a2 n2 c2, v = .tuple #[.agg #[.bool b1, .slice a1 n1 c1], .agg #[.bool b2, .slice a2 n2 c2]] /\ Big w1 (.agg #[.bool b1, .slice a1 n1 c1]) t /\ Big w1 (.agg #[.bool b2, .slice a2 n2 c2]) u) (ev (.tmp 18)) w9 := hev.dep 8 18 (by kernel_rfl)
   dsimp only at e18
   obtain ⟨v18, hv18⟩ : ∃ v, ev (.tmp 18) = v := ⟨_, rfl⟩
   rw [hv18] at e18
   obtain ⟨b1, a1, n1, c1, b2, a2, n2, c2, rfl, h2⟩ := e18; exact leavesR_value (u := .tuple #[.agg #[.bool b1, .slice a1 n1 c1], .agg #[.bool b2, .slice a2 n2 c2]]) (by go_simp) ⟨_, _, _, _, _, _, _, _, rfl, h2⟩
  ·obtain rfl := oI hi
   have e9 : (fun v w1 => ∃ b1 a1 n1 c1 b2 a2 n2 c2, v = .tuple #[.agg #[.bool b1, .slice a1 n1 c1], .agg #[.bool b2, .slice a2 n2 c2]] /\ Big w1 (.agg #[.bool b1, .slice a1 n1 c1]) t /\ Big w1 (.agg #[.bool b2, .slice a2 n2 c2]) u) (ev (.tmp 9)) w9 := hev.dep 9 9 (by kernel_rfl)
   dsimp only at e9
   obtain ⟨v9, hv9⟩ : ∃ v, ev (.tmp 9) = v := ⟨_, rfl⟩
   rw [hv9] at e9
   obtain ⟨b1, a1, n1, c1, b2, a2, n2, c2, rfl, h2, h3⟩ := e9; exact leavesR_value (u := .agg #[.bool b1, .slice a1 n1 c1]) (by go_simp) h2
  ·obtain rfl := oI hi
   have e9 : (fun v w1 => ∃ b1 a1 n1 c1 b2 a2 n2 c2, v = .tuple #[.agg #[.bool b1, .slice a1 n1 c1], .agg #[.bool b2, .slice a2 n2 c2]] /\ Big w1 (.agg #[.bool b1, .slice a1 n1 c1]) t /\ Big w1 (.agg #[.bool b2, .slice a2 n2 c2]) u) (ev (.tmp 9)) w9 := hev.dep 9 9 (by kernel_rfl)
   dsimp only at e9
   obtain ⟨v9, hv9⟩ : ∃ v, ev (.tmp 9) = v := ⟨_, rfl⟩
   rw [hv9] at e9
   obtain ⟨b1, a1, n1, c1, b2, a2, n2, c2, rfl, h2, h3⟩ := e9; exact leavesR_value (u := .agg #[.bool b2, .slice a2 n2 c2]) (by go_simp) h3
  ·obtain rfl := oI hi
   exact leavesR_up (u := .pointer (some ⟨w9.heap.size, 0, none⟩)) (w' := w9.alloc (.cells #[.bool false, .slice none 0 0] 66)) (by go_simp) (Up.alloc _ _) ⟨_, rfl, hS6.size, Blk.new _ _ rfl⟩
  ·obtain rfl := oI hi
   exact leavesR_up (u := .pointer (some ⟨w9.heap.size, 0, none⟩)) (w' := w9.alloc (.cells #[.bool false, .slice none 0 0] 66)) (by go_simp) (Up.alloc _ _) ⟨_, rfl, hS6.size, Blk.new _ _ rfl⟩
  ·exact absurd rfl hne1
  ·exact absurd rfl hne2
  ·exact absurd (show i + 16 < 16 from (Array.getElem?_eq_some_iff.1 hi).1) (by omega)
 have ⟨hS1, hS2, hS3, hS4, hS5, hS6, hSB⟩ := hSE
 have q0 : gR 10 = (.agg #[.bool qo, .slice ao no co]) := hq 0 10 (by decide) (by decide) (by decide) (by kernel_rfl)
 have q1 : gR 11 = (.agg #[.bool p, .slice a n ca]) := hq 1 11 (by decide) (by decide) (by decide) (by kernel_rfl)
 have q2 : (fun v w1 => Big w1 v x2) (gR 12) wE := hq 2 12 (by decide) (by decide) (by decide) (by kernel_rfl)
 dsimp only at q2
 obtain ⟨v12, hv12⟩ : ∃ v, gR 12 = v := ⟨_, rfl⟩
 rw [hv12] at q2
 have q3 : gR 13 = (.agg #[.bool q, .slice b m cb]) := hq 3 13 (by decide) (by decide) (by decide) (by kernel_rfl)
 have q4 : (fun v w1 => Big w1 v s) (gR 14) wE := hq 4 14 (by decide) (by decide) (by decide) (by kernel_rfl)
 dsimp only at q4
 obtain ⟨v14, hv14⟩ : ∃ v, gR 14 = v := ⟨_, rfl⟩
 rw [hv14] at q4
 have q5 : gR 15 = (.agg #[.bool qo, .slice ao no co]) := hq 5 15 (by decide) (by decide) (by decide) (by kernel_rfl)
 have q6 : gR 16 = (.agg #[.bool q, .slice b m cb]) := hq 6 16 (by decide) (by decide) (by decide) (by kernel_rfl)
 have q7 : (fun v w1 => Big w1 v y2) (gR 17) wE := hq 7 17 (by decide) (by decide) (by decide) (by kernel_rfl)
 dsimp only at q7
 obtain ⟨v17, hv17⟩ : ∃ v, gR 17 = v := ⟨_, rfl⟩
 rw [hv17] at q7
 have q8 : (fun v w1 => ∃ b1 a1 n1 c1 b2 a2 n2 c2, v = .tuple #[.agg #[.bool b1, .slice a1 n1 c1], .agg #[.bool b2, .slice a2 n2 c2]] /\ Big w1 (.agg #[.bool b1, .slice a1 n1 c1]) t /\ Big w1 (.agg #[.bool b2, .slice a2 n2 c2]) u) (gR 18) wE := hq 8 18 (by decide) (by decide) (by decide) (by kernel_rfl)
 dsimp only at q8
 obtain ⟨v18, hv18⟩ : ∃ v, gR 18 = v := ⟨_, rfl⟩
 rw [hv18] at q8
 have q9 : (fun v w1 => ∃ b1 a1 n1 c1 b2 a2 n2 c2, v = .tuple #[.agg #[.bool b1, .slice a1 n1 c1], .agg #[.bool b2, .slice a2 n2 c2]] /\ Big w1 (.agg #[.bool b1, .slice a1 n1 c1]) t /\ Big w1 (.agg #[.bool b2, .slice a2 n2 c2]) u) (gR 9) wE := hq 9 9 (by decide) (by decide) (by decide) (by kernel_rfl)
 dsimp only at q9
 obtain ⟨v9, hv9⟩ : ∃ v, gR 9 = v := ⟨_, rfl⟩
 rw [hv9] at q9
 have q10 : (fun v w1 => Big w1 v t) (gR 19) wE := hq 10 19 (by decide) (by decide) (by decide) (by kernel_rfl)
 dsimp only at q10
 obtain ⟨v19, hv19⟩ : ∃ v, gR 19 = v := ⟨_, rfl⟩
 rw [hv19] at q10
 have q12 : (fun v w1 => ∃ b, v = .pointer (some ⟨b, 0, none⟩) /\ w3.heap.size <= b /\ Blk w1 b 66 #[.bool false, .slice none 0 0]) (gR 6) wE := hq 12 6 (by decide) (by decide) (by decide) (by kernel_rfl)
 dsimp only at q12
 obtain ⟨v6, hv6⟩ : ∃ v, gR 6 = v := ⟨_, rfl⟩
 rw [hv6] at q12
 have q13 : (fun v w1 => ∃ b, v = .pointer (some ⟨b, 0, none⟩) /\ w3.heap.size <= b /\ Blk w1 b 66 #[.bool false, .slice none 0 0]) (gR 7) wE := hq 13 7 (by decide) (by decide) (by decide) (by kernel_rfl)
 dsimp only at q13
 obtain ⟨v7, hv7⟩ : ∃ v, gR 7 = v := ⟨_, rfl⟩
 rw [hv7] at q13
 obtain rfl := oI ho1
 obtain rfl := oI ho2
 obtain rfl := oI hox
 rw [hv6, hv7] at hJ
 simp only [putL, List.map_cons, List.map_nil, q0, q1, hv12, q3, hv14, q5, q6, hv17, hv18, hv9, hv19, hv6, hv7, Act.put, pu1, pu2, pu3]
 clear hq hSE q0 q1 q3 q5 q6
 obtain ⟨b4, a4, m4, c4, rfl⟩ := q10.shape
 obtain ⟨z1, rfl, hz1, hBz1⟩ := q12
 obtain ⟨z2, rfl, hz2, hBz2⟩ := q13
 have hne : z2 ≠ z1 := fun e => hJ (by rw [e])
 have hlc := (hBc.up hS6).lt
 have hlw : w.heap.size + 1 + 1 < w3.heap.size := hBc.lt
 have g1 := hBz1.setRow #[.bool b4, .slice a4 m4 c4]
 have g2 := big_set (D := #[.bool b4, .slice a4 m4 c4]) hBz1 q10
 have g3 := Blk.row_other hBz2 #[.bool b4, .slice a4 m4 c4] hne
 have g4 := Blk.row_other (hBc.up hS6) #[.bool b4, .slice a4 m4 c4] (show w.heap.size + 1 + 1 ≠ z1 by omega)
 have g5 : Up w _ := below_setRow hS5 (show w.heap.size <= z1 by omega) #[.bool b4, .slice a4 m4 c4]
 refine ⟨fun hx => ?_, ?_⟩
 ·obtain hr := hx 20 rfl
  obtain ⟨b5, a5, m5, c5, h5⟩ := hr.shape
  rw [h5] at hr ⊢
  refine wp_stB rfl rfl rfl rfl hBz1 rfl rfl (one2 _ _ _ _) ?_
  refine wp_stB rfl rfl rfl rfl g3 rfl rfl (one2 _ _ _ _) ?_
  have g6 := big_set (D := #[.bool b4, .slice a4 m4 c4]) hBz1 hr
  have k1 := Blk.row_other g1 #[.bool b5, .slice a5 m5 c5] (Ne.symm hne)
  have k2 := big_set (D := #[.bool b5, .slice a5 m5 c5]) g3 g2
  have k3 := Blk.setRow g3 #[.bool b5, .slice a5 m5 c5]
  have k4 := Blk.row_other g4 #[.bool b5, .slice a5 m5 c5] (show w.heap.size + 1 + 1 ≠ z2 by omega)
  have k5 : Up w _ := below_setRow g5 (show w.heap.size <= z2 by omega) #[.bool b5, .slice a5 m5 c5]
  have k6 := big_set (D := #[.bool b5, .slice a5 m5 c5]) g3 g6
  obtain ⟨wK, hwK⟩ : ∃ wK, (wE.setRow z1 #[.bool b4, .slice a4 m4 c4]).setRow z2 #[.bool b5, .slice a5 m5 c5] = wK := ⟨_, rfl⟩
  rw [hwK] at k1 k2 k3 k4 k5 k6 ⊢
  clear hwK g1 g2 g3 g4 g5 g6 hS1 hS2 hS3 hS4 hS5 hS6 hSB huE hBz1 hBz2 q9 q10 q2 q4 q7 q8 hBa hBb hBc
  cases sg with
  | true =>
    go_wp2_with (first
     | ((with_reducible apply ldB_P); exact rfl; exact rfl; exact k3; exact rfl)
     | (go_at_call 50; (with_reducible refine (HSg.out _ _ k6).mono ?_); rintro r w7 ⟨rfl, hu7⟩))
    have m1 := k1.up hu7
    have m2 := k2.up hu7
    have m4' := k4.up hu7
    have m5 := k5.trans hu7
    clear k1 k2 k3 k4 k5 k6 hu7
    refine wp_region_sp (n := 28) 3 [24, 25, 26] [SP.is (.agg #[.bool b4, .slice a4 m4 c4]), SP.of (fun v w1 => Big w1 v 1) (fun _ _ _ h hu => h.up hu), SP.of (fun v w1 => Big w1 v (t - 1)) (fun _ _ _ h hu => h.up hu), SP.any] (fun wq => Blk wq z1 66 #[.bool b4, .slice a4 m4 c4] /\ Blk wq (w.heap.size + 1 + 1) 66 #[.bool false, .slice none 0 0] /\ Big wq (.agg #[.bool b4, .slice a4 m4 c4]) t /\ Below w.heap.size w wq) (by kernel_rfl) (by rfl) (by kernel_rfl) (by kernel_rfl) (fun _ _ h hu => ⟨(h.1).up hu, (h.2.1).up hu, (h.2.2.1).up hu, below_up (h.2.2.2) hu⟩) ⟨(by first | assumption | exact gBlk), (by first | assumption | exact gBlk), (by assumption), gUp⟩ (fun ev w9 hS9 i o hne hi hev => ?_) (fun gR wE hq hSE huE => ?_)
    ·have ⟨hS1, hS2, hS3, hSB⟩ := hS9
     have hcC := hev.const
     have hcF := hev.func
     have hcG := hev.global
     rcases i with _ | _ | _ | _ | i
     ·obtain rfl := oI hi
      have e6 := hev.other 6 (by kernel_rfl)
      simp [Act.eval] at e6
      exact leavesR_value (run_ldBR rfl (by go_simp) hS1 rfl) rfl
     ·obtain rfl := oI hi
      refine leavesR_call ?_ (HO1.out _)
      go_simp
     ·obtain rfl := oI hi
      have e24 : ev (.tmp 24) = (.agg #[.bool b4, .slice a4 m4 c4]) := hev.dep 0 24 (by kernel_rfl)
      have e25 : (fun v w1 => Big w1 v 1) (ev (.tmp 25)) w9 := hev.dep 1 25 (by kernel_rfl)
      dsimp only at e25
      obtain ⟨v25, hv25⟩ : ∃ v, ev (.tmp 25) = v := ⟨_, rfl⟩
      rw [hv25] at e25
      refine leavesR_call ?_ (HSb.out _ _ _ (e24 ▸ hS3) e25)
      go_simp
     ·exact absurd rfl hne
     ·exact absurd (show i + 4 < 4 from (Array.getElem?_eq_some_iff.1 hi).1) (by omega)
    have ⟨hS1, hS2, hS3, hSB⟩ := hSE
    have q0 : gR 24 = (.agg #[.bool b4, .slice a4 m4 c4]) := hq 0 24 (by decide) (by kernel_rfl)
    have q1 : (fun v w1 => Big w1 v 1) (gR 25) wE := hq 1 25 (by decide) (by kernel_rfl)
    dsimp only at q1
    obtain ⟨v25, hv25⟩ : ∃ v, gR 25 = v := ⟨_, rfl⟩
    rw [hv25] at q1
    have q2 : (fun v w1 => Big w1 v (t - 1)) (gR 26) wE := hq 2 26 (by decide) (by kernel_rfl)
    dsimp only at q2
    obtain ⟨v26, hv26⟩ : ∃ v, gR 26 = v := ⟨_, rfl⟩
    rw [hv26] at q2
    refine ⟨fun h => absurd h (by decide), fun o ho => ?_⟩
    obtain rfl := oI ho
    simp only [putL, List.map_cons, List.map_nil, q0, hv25, hv26, Act.put, pu1, pu2, pu3]
    clear hq hSE q0
    obtain ⟨b7, a7, n7, c7, rfl⟩ := q2.shape
    refine wp_stB rfl rfl rfl rfl hS2 rfl rfl (one2 _ _ _ _) ?_
    have r1 := hS2.setRow #[.bool b7, .slice a7 n7 c7]
    have r2 := big_set (D := #[.bool b7, .slice a7 n7 c7]) hS2 q2
    have r3 : Up w _ := below_setRow (m5.trans huE) (show w.heap.size <= w.heap.size + 1 + 1 by omega) #[.bool b7, .slice a7 n7 c7]
    go_wp2
    exact bodyPost_ret (resB rfl rfl r1 rfl) rfl ⟨r3, _, rfl, by rw [<- HRS.out, if_pos trivial]; exact r2⟩
  | false =>
    go_wp2_with (first
     | ((with_reducible apply ldB_P); exact rfl; exact rfl; exact k3; exact rfl)
     | ((with_reducible apply ldB_P); exact rfl; exact rfl; exact k1.up hu7; exact rfl)
     | (go_at_call 50; (with_reducible refine (HSg.out _ _ k6).mono ?_); rintro r w7 ⟨rfl, hu7⟩)
     | ((with_reducible apply stB_P); exact rfl; exact rfl; exact k4.up hu7; exact rfl; exact rfl; exact one2 _ _ _ _
        refine wpL_folded (fun wd => Up w wd /\ Blk wd (w.heap.size + 1 + 1) 66 #[.bool b4, .slice a4 m4 c4] /\ Big wd (.agg #[.bool b4, .slice a4 m4 c4]) t) ⟨below_setRow (k5.trans hu7) (by omega) _, Blk.setRow (k4.up hu7) _, big_set (k4.up hu7) (k2.up hu7)⟩ ?_
        rintro w6 ⟨j5, j4, j2⟩))
    exact bodyPost_ret (resB rfl rfl j4 rfl) rfl ⟨j5, _, rfl, by rw [<- HRS.out, if_neg (by decide)]; exact j2⟩
 ·obtain ⟨b1, a1, m1, c1, b2, a2, m2, c2, rfl, -, hr⟩ := q9
  refine wp_stB rfl rfl rfl rfl hBz1 rfl rfl (one2 _ _ _ _) ?_
  refine wp_val (v := .agg #[.bool b2, .slice a2 m2 c2]) (by go_simp) ?_
  refine wp_stB rfl rfl rfl rfl g3 rfl rfl (one2 _ _ _ _) ?_
  have g6 := big_set (D := #[.bool b4, .slice a4 m4 c4]) hBz1 hr
  have k1 := Blk.row_other g1 #[.bool b2, .slice a2 m2 c2] (Ne.symm hne)
  have k2 := big_set (D := #[.bool b2, .slice a2 m2 c2]) g3 g2
  have k3 := Blk.setRow g3 #[.bool b2, .slice a2 m2 c2]
  have k4 := Blk.row_other g4 #[.bool b2, .slice a2 m2 c2] (show w.heap.size + 1 + 1 ≠ z2 by omega)
  have k5 : Up w _ := below_setRow g5 (show w.heap.size <= z2 by omega) #[.bool b2, .slice a2 m2 c2]
  have k6 := big_set (D := #[.bool b2, .slice a2 m2 c2]) g3 g6
  obtain ⟨wK, hwK⟩ : ∃ wK, (wE.setRow z1 #[.bool b4, .slice a4 m4 c4]).setRow z2 #[.bool b2, .slice a2 m2 c2] = wK := ⟨_, rfl⟩
  rw [hwK] at k1 k2 k3 k4 k5 k6 ⊢
  clear hwK g1 g2 g3 g4 g5 g6 hS1 hS2 hS3 hS4 hS5 hS6 hSB huE hBz1 hBz2 q10 q2 q4 q7 q8 hBa hBb hBc
  cases sg with
  | true =>
    go_wp2_with (first
     | ((with_reducible apply ldB_P); exact rfl; exact rfl; exact k3; exact rfl)
     | (go_at_call 50; (with_reducible refine (HSg.out _ _ k6).mono ?_); rintro r w7 ⟨rfl, hu7⟩))
    have m1 := k1.up hu7
    have m2 := k2.up hu7
    have m4' := k4.up hu7
    have m5 := k5.trans hu7
    clear k1 k2 k3 k4 k5 k6 hu7
    refine wp_region_sp (n := 28) 3 [24, 25, 26] [SP.is (.agg #[.bool b4, .slice a4 m4 c4]), SP.of (fun v w1 => Big w1 v 1) (fun _ _ _ h hu => h.up hu), SP.of (fun v w1 => Big w1 v (t - 1)) (fun _ _ _ h hu => h.up hu), SP.any] (fun wq => Blk wq z1 66 #[.bool b4, .slice a4 m4 c4] /\ Blk wq (w.heap.size + 1 + 1) 66 #[.bool false, .slice none 0 0] /\ Big wq (.agg #[.bool b4, .slice a4 m4 c4]) t /\ Below w.heap.size w wq) (by kernel_rfl) (by rfl) (by kernel_rfl) (by kernel_rfl) (fun _ _ h hu => ⟨(h.1).up hu, (h.2.1).up hu, (h.2.2.1).up hu, below_up (h.2.2.2) hu⟩) ⟨(by first | assumption | exact gBlk), (by first | assumption | exact gBlk), (by assumption), gUp⟩ (fun ev w9 hS9 i o hne hi hev => ?_) (fun gR wE hq hSE huE => ?_)
    ·have ⟨hS1, hS2, hS3, hSB⟩ := hS9
     have hcC := hev.const
     have hcF := hev.func
     have hcG := hev.global
     rcases i with _ | _ | _ | _ | i
     ·obtain rfl := oI hi
      have e6 := hev.other 6 (by kernel_rfl)
      simp [Act.eval] at e6
      exact leavesR_value (run_ldBR rfl (by go_simp) hS1 rfl) rfl
     ·obtain rfl := oI hi
      refine leavesR_call ?_ (HO1.out _)
      go_simp
     ·obtain rfl := oI hi
      have e24 : ev (.tmp 24) = (.agg #[.bool b4, .slice a4 m4 c4]) := hev.dep 0 24 (by kernel_rfl)
      have e25 : (fun v w1 => Big w1 v 1) (ev (.tmp 25)) w9 := hev.dep 1 25 (by kernel_rfl)
      dsimp only at e25
      obtain ⟨v25, hv25⟩ : ∃ v, ev (.tmp 25) = v := ⟨_, rfl⟩
      rw [hv25] at e25
      refine leavesR_call ?_ (HSb.out _ _ _ (e24 ▸ hS3) e25)
      go_simp
     ·exact absurd rfl hne
     ·exact absurd (show i + 4 < 4 from (Array.getElem?_eq_some_iff.1 hi).1) (by omega)
    have ⟨hS1, hS2, hS3, hSB⟩ := hSE
    have q0 : gR 24 = (.agg #[.bool b4, .slice a4 m4 c4]) := hq 0 24 (by decide) (by kernel_rfl)
    have q1 : (fun v w1 => Big w1 v 1) (gR 25) wE := hq 1 25 (by decide) (by kernel_rfl)
    dsimp only at q1
    obtain ⟨v25, hv25⟩ : ∃ v, gR 25 = v := ⟨_, rfl⟩
    rw [hv25] at q1
    have q2 : (fun v w1 => Big w1 v (t - 1)) (gR 26) wE := hq 2 26 (by decide) (by kernel_rfl)
    dsimp only at q2
    obtain ⟨v26, hv26⟩ : ∃ v, gR 26 = v := ⟨_, rfl⟩
    rw [hv26] at q2
    refine ⟨fun h => absurd h (by decide), fun o ho => ?_⟩
    obtain rfl := oI ho
    simp only [putL, List.map_cons, List.map_nil, q0, hv25, hv26, Act.put, pu1, pu2, pu3]
    clear hq hSE q0
    obtain ⟨b7, a7, n7, c7, rfl⟩ := q2.shape
    refine wp_stB rfl rfl rfl rfl hS2 rfl rfl (one2 _ _ _ _) ?_
    have r1 := hS2.setRow #[.bool b7, .slice a7 n7 c7]
    have r2 := big_set (D := #[.bool b7, .slice a7 n7 c7]) hS2 q2
    have r3 : Up w _ := below_setRow (m5.trans huE) (show w.heap.size <= w.heap.size + 1 + 1 by omega) #[.bool b7, .slice a7 n7 c7]
    go_wp2
    exact bodyPost_ret (resB rfl rfl r1 rfl) rfl ⟨r3, _, rfl, by rw [<- HRS.out, if_pos trivial]; exact r2⟩
  | false =>
    go_wp2_with (first
     | ((with_reducible apply ldB_P); exact rfl; exact rfl; exact k3; exact rfl)
     | ((with_reducible apply ldB_P); exact rfl; exact rfl; exact k1.up hu7; exact rfl)
     | (go_at_call 50; (with_reducible refine (HSg.out _ _ k6).mono ?_); rintro r w7 ⟨rfl, hu7⟩)
     | ((with_reducible apply stB_P); exact rfl; exact rfl; exact k4.up hu7; exact rfl; exact rfl; exact one2 _ _ _ _
        refine wpL_folded (fun wd => Up w wd /\ Blk wd (w.heap.size + 1 + 1) 66 #[.bool b4, .slice a4 m4 c4] /\ Big wd (.agg #[.bool b4, .slice a4 m4 c4]) t) ⟨below_setRow (k5.trans hu7) (by omega) _, Blk.setRow (k4.up hu7) _, big_set (k4.up hu7) (k2.up hu7)⟩ ?_
        rintro w6 ⟨j5, j4, j2⟩))
    exact bodyPost_ret (resB rfl rfl j4 rfl) rfl ⟨j5, _, rfl, by rw [<- HRS.out, if_neg (by decide)]; exact j2⟩
theorem rexact_any {v xv : Value} {N : Int} {l x : List Int} {w : World} (hm : Sm w v N l) (hx : Vw w xv x) (hI : In64 x) (hs : x.length <= 1000) : Calls Tryz.prog 30 #[v, xv] w (RExactPost w N l x) := by
 by_cases hC : slC N l x = 0
 ·obtain ⟨n, rfl, hD, hxl⟩ := slC_def hC
  exact rexact_ok hm hD hx hxl hI hC
 ·exact rexact_bad hm hx hI hs hC
theorem frAt {w : World} {g i : Nat} {C : Array Value} {b b' : Bool} {a a' : Option Addr} {n c n' c' : Nat} (hB : Blk w g 80 C) (h1 : C[i * 4]? = some (.bool b)) (h2 : C[i * 4 + 1]? = some (.slice a n c)) (h3 : C[i * 4 + 2]? = some (.bool b')) (h4 : C[i * 4 + 3]? = some (.slice a' n' c')) :
   w.rangeAt g (i * 4) [.bool b, .slice a n c] /\ w.rangeAt g (i * 4 + 2) [.bool b', .slice a' n' c'] /\ w.rangeAt g (i * 4) [.bool b, .slice a n c, .bool b', .slice a' n' c'] := by
 refine ⟨?_, ?_, ?_⟩ <;> intro j v hv
 ·rcases j with _ | _ | j
  ·simp at hv; subst hv; exact hB.cell _ h1
  ·simp at hv; subst hv; exact hB.cell _ h2
  ·simp at hv
 ·rcases j with _ | _ | j
  ·simp at hv; subst hv; exact hB.cell _ h3
  ·simp at hv; subst hv; exact hB.cell _ h4
  ·simp at hv
 ·rcases j with _ | _ | _ | _ | j
  ·simp at hv; subst hv; exact hB.cell _ h1
  ·simp at hv; subst hv; exact hB.cell _ h2
  ·simp at hv; subst hv; exact hB.cell _ h3
  ·simp at hv; subst hv; exact hB.cell _ h4
  ·simp at hv
theorem cmp_vfit (m : Int) : decide (cmpZ ((m.natAbs : Nat) : Int) 72057594037927936 <= 0) = vfit m := by
 unfold cmpZ vfit
 by_cases h : m.natAbs <= 72057594037927936
 ·rw [decide_eq_true h]
  by_cases h1 : ((m.natAbs : Nat) : Int) < 72057594037927936
  ·rw [if_pos h1]; rfl
  ·rw [if_neg h1, if_neg (by omega)]; rfl
 ·rw [decide_eq_false h, if_neg (by omega), if_pos (by omega)]; rfl
theorem nrN_bp {z D : Int} (hz : z.natAbs < bp 5) (hD : D.natAbs < bp 5) (h0 : 0 < D) : (nrN D z).natAbs < bp 6 := by
 unfold nrN
 have e1 : bp 6 = bp 5 * 18446744073709551616 := bp_succ 5
 have h1 : ((2 * z + D) / (2 * D)).natAbs <= (2 * z + D).natAbs := Int.natAbs_ediv_le_natAbs _ _
 omega
def RNearPost (w : World) (N : Int) (l x : List Int) (r : Ending) (w' : World) : Prop := ∃ z, r = .returned (.tuple #[z, .int .i64 (neC N l x)]) /\ Up w w' /\ Vw w' z (neL N l x)
set_option maxHeartbeats 16000000 in
theorem rnear_any {v xv : Value} {N : Int} {l x : List Int} {w : World} (hm : Sm w v N l) (hx : Vw w xv x) (hI : In64 x) (hs : x.length <= 1000) :
   Calls Tryz.prog 13 #[v, xv] w (RNearPost w N l x) := by
 have HEX := hid (fun w' (hu : Up w w') => rexact_any (hm.up hu) (hx.up hu) hI hs)
 obtain ⟨px, cx, rfl, -, -⟩ := hx
 obtain ⟨s, rfl, ⟨p, cap, rfl, -, -⟩, -, -, -⟩ := hm
 obtain ⟨W0, hW0⟩ : ∃ W0, w.alloc (.cells #[.int .i64 N, .slice p l.length cap] 24) = W0 := ⟨_, rfl⟩
 have hB : Blk W0 w.heap.size 24 #[.int .i64 N, .slice p l.length cap] := by rw [<- hW0]; exact Blk.new _ _ rfl
 have hU : Up w W0 := by rw [<- hW0]; exact Up.alloc _ _
 unfold RNearPost
 unfold RExactPost at HEX
 obtain ⟨S, hS⟩ : ∃ S, slC N l x = S := ⟨_, rfl⟩
 obtain ⟨C, hC⟩ : ∃ C, neC N l x = C := ⟨_, rfl⟩
 obtain ⟨E, hE⟩ : ∃ E, neL N l x = E := ⟨_, rfl⟩
 obtain ⟨X, hX⟩ : ∃ X, exL N l x = X := ⟨_, rfl⟩
 obtain ⟨D, hD⟩ : ∃ D, slD N.toNat l = D := ⟨_, rfl⟩
 have HS := hid hS
 have HC := hid hC
 have HE := hid hE
 have HX := hid hX
 have HD := hid hD
 rw [hS, hX, hD] at HEX
 rw [hC, hE]
 clear hS hC hE hX hD hI hs
 by_cases h0 : S = 0
 ·obtain ⟨n, rfl, hDf, hxl⟩ := slC_def (HS.out.trans h0)
  have hXe : X = slL n l x := by rw [<- HX.out]; unfold exL; rw [if_pos (HS.out.trans h0)]; rfl
  have hn8 := hDf.n8
  have hln : X.length = n := by rw [hXe]; exact mk_len _ _
  have HLn := hid hln
  have hDe : D = slD n l := HD.out.symm
  have HAt := hid (fun i (hi : i < n) => show zth X i = slX n l x i from by rw [hXe]; exact mk_at hi)
  have HB5 := hid (fun i => hDf.num_bp i)
  have HDb : Hid (D.natAbs < bp 5 /\ 0 < D) := hid (by rw [hDe]; exact ⟨hDf.den_bp, hDf.den_pos⟩)
  have hNl : (nrL n l x).length = n := mk_len _ _
  have HNl := hid hNl
  have HNt := hid (fun i (hi : i < n) => show (nrL n l x).take (i + 1) = (nrL n l x).take i ++ [nrN D (slX n l x i)] from by rw [hDe]; exact mk_take_succ (fun i => nrN (slD n l) (slX n l x i)) hi)
  have HNa := hid (fun i (hi : i < n) => show zth (nrL n l x) i = nrN D (slX n l x i) from by rw [hDe]; exact mk_at hi)
  have HC2 : Hid (C = if (nrL n l x).all vfit = true then 0 else 21) := hid (by rw [<- HC.out]; unfold neC; rw [if_pos (HS.out.trans h0)]; rfl)
  have HE2 : Hid (E = if C = 0 then nrL n l x else []) := hid (by rw [<- HE.out, <- HC.out]; rfl)
  subst h0
  clear hXe hDe hDf hxl hNl
  obtain ⟨R, hR⟩ : ∃ R, nrL n l x = R := ⟨_, rfl⟩
  rw [hR] at HNl HNt HNa HC2 HE2
  clear hR hln
  go_enter Tryz.func13, Tryz.ntmps13
  go_wp2_with (first
   | ((with_reducible apply ldM_P); exact rfl; exact rfl; exact hB; exact rfl)
   | (go_at_call 30; (with_reducible refine (HEX.out _ hU).mono ?_); rintro r w1 ⟨z1, rfl, hu1, hF1⟩; obtain ⟨pz, cz, rfl⟩ := hF1.slice; have hU1 := hU.trans hu1))
  rw [HLn.out]
  have HF1 := hid hF1
  clear hW0 hB hU HEX hu1 hF1
  go_loopg [8, 9] n (fun g ta ti wr => ∃ i : Nat, i <= n /\ n - i <= g /\ ti = .int .i64 (i : Nat) /\ OwnI wr w1.heap.size ta (R.take i) /\ (∀ j, j < i -> vfit (zth R j) = true) /\ Up w1 wr)
  case atStart => exact ⟨0, Nat.zero_le _, by omega, rfl, by rw [List.take_zero]; exact OwnI.nil _ _, fun j hj => absurd hj (Nat.not_lt_zero _), Up.refl _⟩
  case round =>
   obtain ⟨i, hi, hig, rfl, hO, hz, hu⟩ := hrel
   have HZ := hid hz
   clear hz
   have hszu := hu.size
   by_cases hlt : i < n
   ·obtain ⟨gZ, cz0, CZ, hv, -, hBZ, htZ⟩ := HF1.out.open (by rw [HLn.out]; omega)
    injection hv with x1 _ x3
    subst x1 x3
    obtain ⟨b1, a1, n1, c1, b2, a2, n2, c2, q1, q2, q3, q4, hbz, hbd⟩ := htZ i (by rw [HLn.out]; exact hlt)
    rw [HAt.out i hlt] at hbz
    have HRng := hid (fun w' (hB : Blk w' gZ 80 CZ) => frAt hB q1 q2 q3 q4)
    have hBZr := hBZ.up hu
    have Hbz := hid (hbz.up hu)
    have Hbd := hid (hbd.up hu)
    have e1 : IntKind.i64.wrap ((i : Int) + 1) = (i : Int) + 1 := IntWalk.i64_in _ (by omega)
    have HT9 := hid (HNt.out i hlt)
    have HA9 := hid (HNa.out i hlt)
    have HTk : Hid ((R.take i).length < 1000000) := hid (by rw [List.length_take]; omega)
    have hmb := nrN_bp (HB5.out i) HDb.out.1 HDb.out.2
    have HRo := hid (fun va vb w (ha : Big w va (slX n l x i)) (hb : Big w vb D) => rround_any ha hb HDb.out.2 (B := 5) (by decide) (HB5.out i) HDb.out.1)
    have hln := HLn.out
    clear htZ hBZ q1 q2 q3 q4 hbz hbd
    obtain ⟨z, hz⟩ : ∃ z, slX n l x i = z := ⟨_, rfl⟩
    rw [hz] at HT9 HA9 hmb HRo Hbz
    clear hz
    replace HRo := hid (fun va vb w (ha : Big w va z) (hb : Big w vb D) => show Calls Tryz.prog 31 #[va, vb] w fun r w' => Up w w' /\ ∃ v, r = .returned v /\ Big w' v (nrN D z) from HRo.out va vb w ha hb)
    obtain ⟨m, hm⟩ : ∃ m, nrN D z = m := ⟨_, rfl⟩
    rw [hm] at HT9 HA9 hmb HRo
    have nm := nl_bp (k := 6) (by omega) hmb
    have HFi := hid (fun v w (h : Big w v m) => fits_gen (M := 72057594037927936) h nm (by decide) (by decide) (nl_bp (k := 1) (by omega) (i64_bp (by unfold I64; omega))))
    rw [cmp_vfit] at HFi
    have HI6 := hid (fun v w (h : Big w v m) => int64_big h nm)
    clear hm hmb nm
    go_wp2_with fail
    refine wp_region_sp (n := 52) 12 [28, 29, 30, 31, 32, 33, 34, 35, 36, 37, 38, 10] [SP.is (.slice (some ⟨gZ, 0, none⟩) X.length cz), SP.is (.int .i64 (i : Nat)), SP.is (.pointer (some ⟨gZ, i * 4, none⟩)), SP.is (.pointer (some ⟨gZ, i * 4, none⟩)), SP.is (.agg #[.bool b1, .slice a1 n1 c1]), SP.is (.slice (some ⟨gZ, 0, none⟩) X.length cz), SP.is (.int .i64 (i : Nat)), SP.is (.pointer (some ⟨gZ, i * 4, none⟩)), SP.is (.pointer (some ⟨gZ, i * 4 + 2, none⟩)), SP.is (.agg #[.bool b2, .slice a2 n2 c2]), SP.of (fun v w1 => Big w1 v m) (fun _ _ _ h hu => h.up hu), SP.of (fun v w1 => ∃ b, v = .pointer (some ⟨b, 0, none⟩) /\ wr.heap.size <= b /\ Blk w1 b 66 #[.bool false, .slice none 0 0]) (fun _ _ _ h hu => h.imp fun _ k => ⟨k.1, k.2.1, k.2.2.up hu⟩), SP.any] (fun wq => Blk wq gZ 80 CZ /\ Up wr wq /\ Below w.heap.size w wq) (by kernel_rfl) (by rfl) (by kernel_rfl) (by kernel_rfl) (fun _ _ h hu => ⟨(h.1).up hu, (h.2.1).trans hu, below_up (h.2.2) hu⟩) ⟨(by first | assumption | exact gBlk), (by first | exact Up.refl _ | assumption), gUp⟩ (fun ev w9 hS9 i o hne hi hev => ?_) (fun gR wE hq hSE huE => ?_)
    ·have ⟨hS1, hS2, hSB⟩ := hS9
     have hcC := hev.const
     have hcF := hev.func
     have hcG := hev.global
     rcases i with _ | _ | _ | _ | _ | _ | _ | _ | _ | _ | _ | _ | _ | i
     ·obtain rfl := oI hi
      have e6 := hev.other 6 (by kernel_rfl)
      simp [Act.eval] at e6
      exact lV (.slice (some ⟨gZ, 0, none⟩) X.length cz)
     ·obtain rfl := oI hi
      have e9 := hev.other 9 (by kernel_rfl)
      simp [Act.eval] at e9
      exact lV (.int .i64 (i : Nat))
     ·obtain rfl := oI hi
      have e28 : ev (.tmp 28) = (.slice (some ⟨gZ, 0, none⟩) X.length cz) := hev.dep 0 28 (by kernel_rfl)
      have e29 : ev (.tmp 29) = (.int .i64 (i : Nat)) := hev.dep 1 29 (by kernel_rfl)
      exact lV (.pointer (some ⟨gZ, i * 4, none⟩))
     ·obtain rfl := oI hi
      have e30 : ev (.tmp 30) = (.pointer (some ⟨gZ, i * 4, none⟩)) := hev.dep 2 30 (by kernel_rfl)
      exact lV (.pointer (some ⟨gZ, i * 4, none⟩))
     ·obtain rfl := oI hi
      have e31 : ev (.tmp 31) = (.pointer (some ⟨gZ, i * 4, none⟩)) := hev.dep 3 31 (by kernel_rfl)
      exact leavesR_value (run_ldB2 rfl e31 (HRng.out _ hS1).1) rfl
     ·obtain rfl := oI hi
      have e6 := hev.other 6 (by kernel_rfl)
      simp [Act.eval] at e6
      exact lV (.slice (some ⟨gZ, 0, none⟩) X.length cz)
     ·obtain rfl := oI hi
      have e9 := hev.other 9 (by kernel_rfl)
      simp [Act.eval] at e9
      exact lV (.int .i64 (i : Nat))
     ·obtain rfl := oI hi
      have e33 : ev (.tmp 33) = (.slice (some ⟨gZ, 0, none⟩) X.length cz) := hev.dep 5 33 (by kernel_rfl)
      have e34 : ev (.tmp 34) = (.int .i64 (i : Nat)) := hev.dep 6 34 (by kernel_rfl)
      exact lV (.pointer (some ⟨gZ, i * 4, none⟩))
     ·obtain rfl := oI hi
      have e35 : ev (.tmp 35) = (.pointer (some ⟨gZ, i * 4, none⟩)) := hev.dep 7 35 (by kernel_rfl)
      exact lV (.pointer (some ⟨gZ, i * 4 + 2, none⟩))
     ·obtain rfl := oI hi
      have e36 : ev (.tmp 36) = (.pointer (some ⟨gZ, i * 4 + 2, none⟩)) := hev.dep 8 36 (by kernel_rfl)
      exact leavesR_value (run_ldB2 rfl e36 (HRng.out _ hS1).2.1) rfl
     ·obtain rfl := oI hi
      have e32 : ev (.tmp 32) = (.agg #[.bool b1, .slice a1 n1 c1]) := hev.dep 4 32 (by kernel_rfl)
      have e37 : ev (.tmp 37) = (.agg #[.bool b2, .slice a2 n2 c2]) := hev.dep 9 37 (by kernel_rfl)
      refine leavesR_call ?_ (HRo.out _ _ _ (e32 ▸ Hbz.out.up hS2) (e37 ▸ Hbd.out.up hS2))
      go_simp
     ·obtain rfl := oI hi
      exact leavesR_up (u := .pointer (some ⟨w9.heap.size, 0, none⟩)) (w' := w9.alloc (.cells #[.bool false, .slice none 0 0] 66)) (by go_simp) (Up.alloc _ _) ⟨_, rfl, hS2.size, Blk.new _ _ rfl⟩
     ·exact absurd rfl hne
     ·exact absurd (show i + 13 < 13 from (Array.getElem?_eq_some_iff.1 hi).1) (by omega)
    have ⟨hS1, hS2, hSB⟩ := hSE
    have q0 : gR 28 = (.slice (some ⟨gZ, 0, none⟩) X.length cz) := hq 0 28 (by decide) (by kernel_rfl)
    have q1 : gR 29 = (.int .i64 (i : Nat)) := hq 1 29 (by decide) (by kernel_rfl)
    have q2 : gR 30 = (.pointer (some ⟨gZ, i * 4, none⟩)) := hq 2 30 (by decide) (by kernel_rfl)
    have q3 : gR 31 = (.pointer (some ⟨gZ, i * 4, none⟩)) := hq 3 31 (by decide) (by kernel_rfl)
    have q4 : gR 32 = (.agg #[.bool b1, .slice a1 n1 c1]) := hq 4 32 (by decide) (by kernel_rfl)
    have q5 : gR 33 = (.slice (some ⟨gZ, 0, none⟩) X.length cz) := hq 5 33 (by decide) (by kernel_rfl)
    have q6 : gR 34 = (.int .i64 (i : Nat)) := hq 6 34 (by decide) (by kernel_rfl)
    have q7 : gR 35 = (.pointer (some ⟨gZ, i * 4, none⟩)) := hq 7 35 (by decide) (by kernel_rfl)
    have q8 : gR 36 = (.pointer (some ⟨gZ, i * 4 + 2, none⟩)) := hq 8 36 (by decide) (by kernel_rfl)
    have q9 : gR 37 = (.agg #[.bool b2, .slice a2 n2 c2]) := hq 9 37 (by decide) (by kernel_rfl)
    have q10 : (fun v w1 => Big w1 v m) (gR 38) wE := hq 10 38 (by decide) (by kernel_rfl)
    dsimp only at q10
    obtain ⟨v38, hv38⟩ : ∃ v, gR 38 = v := ⟨_, rfl⟩
    rw [hv38] at q10
    have q11 : (fun v w1 => ∃ b, v = .pointer (some ⟨b, 0, none⟩) /\ wr.heap.size <= b /\ Blk w1 b 66 #[.bool false, .slice none 0 0]) (gR 10) wE := hq 11 10 (by decide) (by kernel_rfl)
    dsimp only at q11
    obtain ⟨v10, hv10⟩ : ∃ v, gR 10 = v := ⟨_, rfl⟩
    rw [hv10] at q11
    refine ⟨fun h => absurd h (by decide), fun o ho => ?_⟩
    obtain rfl := oI ho
    simp only [putL, List.map_cons, List.map_nil, q0, q1, q2, q3, q4, q5, q6, q7, q8, q9, hv38, hv10, Act.put, pu1, pu2, pu3]
    clear hq hSE q0 q1 q2 q3 q4 q5 q6 q7 q8 q9
    obtain ⟨b7, a7, n7, c7, rfl⟩ := q10.shape
    obtain ⟨bz, rfl, hbz, hBz⟩ := q11
    refine wp_stB rfl rfl rfl rfl hBz rfl rfl (one2 _ _ _ _) ?_
    have kB := hBz.setRow #[.bool b7, .slice a7 n7 c7]
    have kG := big_set (D := #[.bool b7, .slice a7 n7 c7]) hBz q10
    have kU : Up wr _ := below_setRow hS2 hbz #[.bool b7, .slice a7 n7 c7]
    obtain ⟨wL, hwL⟩ : ∃ wL, wE.setRow bz #[.bool b7, .slice a7 n7 c7] = wL := ⟨_, rfl⟩
    rw [hwL] at kB kG kU ⊢
    clear hwL hBz q10 hS1 hS2 hSB huE
    cases hf : vfit m with
    | true =>
      rw [hf] at HFi
      have Hf := hid hf
      have hi6 := i64V_yes (z := m) (by unfold vfit at hf; have := of_decide_eq_true hf; omega)
      rw [hi6] at HI6
      clear hf hi6
      go_wp2_with (first
       | ((with_reducible apply ldB_P); exact rfl; exact rfl; exact kB; exact rfl)
       | ((with_reducible apply ldB_P); exact rfl; exact rfl; exact kB.up hu2; exact rfl)
       | (go_at_call 32; (with_reducible refine (HFi.out _ _ kG).mono ?_); rintro r w2 ⟨rfl, hu2⟩)
       | (go_at_call 27; (with_reducible refine (HI6.out _ _ (kG.up hu2)).mono ?_); rintro r w3 ⟨rfl, hu3⟩)
       | ((with_reducible apply appV); exact rfl; exact rfl; exact OwnI.up (((kU.trans hu2).trans hu3).trans (Up.alloc _ _)) hO; exact vw_one _ _; (focus (have := ((kU.trans hu2).trans hu3).size; simp; omega)); exact HTk.out; (focus (simp; done)); rintro v6 w6 hO6 hb6))
      go_roundg (n - (i + 1))
      case measure => omega
      case rel => exact ⟨i + 1, hlt, Nat.le_refl _, rfl, by rw [HT9.out]; exact hO6, fun j hj => by
       rcases Nat.lt_succ_iff_lt_or_eq.1 hj with h | h
       ·exact HZ.out j h
       ·rw [h, HA9.out]; exact Hf.out, Below.trans (hu.trans (((kU.trans hu2).trans hu3).trans (Up.alloc _ _))) hb6⟩
    | false =>
      rw [hf] at HFi
      have HC3 : Hid (C = 21) := hid (by
       rw [HC2.out]
       refine if_neg fun h => ?_
       have h1 := List.all_eq_true.1 h (zth R i) (by rw [zth_get (by rw [HNl.out]; exact hlt)]; exact List.getElem_mem _)
       rw [HA9.out, hf] at h1
       cases h1)
      have HE3 : Hid (E = []) := hid (by rw [HE2.out, HC3.out]; rfl)
      clear hf
      go_wp2_with (first
       | ((with_reducible apply ldB_P); exact rfl; exact rfl; exact kB; exact rfl)
       | (go_at_call 32; (with_reducible refine (HFi.out _ _ kG).mono ?_); rintro r w2 ⟨rfl, hu2⟩))
      go_ret2
      exact ⟨_, by rw [HC3.out]; rfl, (hU1.trans hu).trans (kU.trans hu2), by rw [HE3.out]; exact vw_nil _⟩
   ·obtain rfl : i = n := by omega
    have hall : R.all vfit = true := List.all_eq_true.2 fun y hy => by
     obtain ⟨j, hj, rfl⟩ := List.mem_iff_getElem.1 hy
     have := HZ.out j (by rw [<- HNl.out]; exact hj)
     rw [zth_get hj] at this
     exact this
    have HC3 : Hid (C = 0) := hid (by rw [HC2.out]; exact if_pos hall)
    have HE3 : Hid (E = R) := hid (by rw [HE2.out, HC3.out]; rfl)
    rw [List.take_of_length_le (by rw [HNl.out]; exact Nat.le_refl _)] at hO
    clear hall
    go_wp2_with fail
    go_ret2
    exact ⟨_, by rw [HC3.out]; rfl, hU1.trans hu, by rw [HE3.out]; exact hO.vw⟩
 ·have HC2 : Hid (C = S) := hid (by rw [<- HC.out]; unfold neC; rw [HS.out]; exact if_neg h0)
  have HE2 : Hid (E = []) := hid (by rw [<- HE.out]; unfold neL; rw [HC.out, HC2.out]; exact if_neg h0)
  have d0 : (S != 0) = true := by simpa using h0
  clear h0
  go_enter Tryz.func13, Tryz.ntmps13
  go_wp2_with (first
   | ((with_reducible apply ldM_P); exact rfl; exact rfl; exact hB; exact rfl)
   | (go_at_call 30; (with_reducible refine (HEX.out _ hU).mono ?_); rintro r w1 ⟨z1, rfl, hu1, hF1⟩; obtain ⟨pz, cz, rfl⟩ := hF1.slice; have hU1 := hU.trans hu1))
  go_ret2
  exact ⟨_, by rw [HC2.out]; rfl, hU1, by rw [HE2.out]; exact vw_nil _⟩
theorem amount_bigA {z : Int} {v : Value} {w : World} (h : Big w v z) :
   Calls Tryz.prog 23 #[v] w fun e w' => Up w w' /\ ∃ v, e = .returned v /\ Big w' v (z.natAbs : Int) := by
 obtain ⟨a, c, rfl, hA⟩ := h
 refine (amount_any _ _ _ _ _).mono ?_
 rintro e w' ⟨rfl, hu⟩
 refine ⟨hu, _, rfl, a, c, ?_, ?_⟩
 ·rw [decide_eq_false (by omega), show (((z.natAbs : Nat) : Int)).natAbs = z.natAbs from by omega]
 ·rw [show (((z.natAbs : Nat) : Int)).natAbs = z.natAbs from by omega]; exact hA.up hu
set_option maxHeartbeats 16000000 in
theorem rresidual_any {mv xv vv : Value} {N : Int} {l x v : List Int} {w : World} (hm : Sm w mv N l) (hx : Vw w xv x) (hv : Vw w vv v) (hIx : In64 x) (hIv : In64 v) (hsx : x.length <= 1000) (hsv : v.length <= 1000) :
   Calls Tryz.prog 11 #[mv, xv, vv] w fun r w' => r = .returned (.tuple #[.int .i64 (rsV N l x v), .int .i64 (rsC N l x v)]) /\ Up w w' := by
 have HF := hid (fun w' (hu : Up w w') => rfine_any (hm.up (hu.trans (Up.alloc w' (.cells #[xv, vv] 22)))) (lv_two (hx.up hu) (hv.up hu)) (fun i => by rcases i with _ | _ | i; exact hIx; exact hIv; exact fun j hj => absurd hj (Nat.not_lt_zero _)) (fun i => by rcases i with _ | _ | i; exact hsx; exact hsv; exact Nat.zero_le _) (by simp))
 have HT := hid (fun w' (hu : Up w w') => rtimes_w (hm.up hu) (hx.up hu) hIx hsx)
 have HV := hid hv
 have HIX := hid hIx
 have HIV := hid hIv
 obtain ⟨px, cx, rfl, -, -⟩ := hx
 obtain ⟨pv, cv, rfl, -, -⟩ := hv
 obtain ⟨s, rfl, ⟨p, cap, rfl, -, -⟩, -, -, -⟩ := hm
 obtain ⟨W0, hW0⟩ : ∃ W0, w.alloc (.cells #[.int .i64 N, .slice p l.length cap] 24) = W0 := ⟨_, rfl⟩
 have hB : Blk W0 w.heap.size 24 #[.int .i64 N, .slice p l.length cap] := by rw [<- hW0]; exact Blk.new _ _ rfl
 have hU : Up w W0 := by rw [<- hW0]; exact Up.alloc _ _
 have HFW := hid (HF.out W0 hU)
 have hBa := hB.up (Up.alloc W0 (.cells #[.slice px x.length cx, .slice pv v.length cv] 22))
 have hUa := hU.trans (Up.alloc W0 (.cells #[.slice px x.length cx, .slice pv v.length cv] 22))
 unfold RWidesPost at HT
 obtain ⟨F, hF⟩ : ∃ F, ftC N l [x, v] = F := ⟨_, rfl⟩
 obtain ⟨C, hC⟩ : ∃ C, rsC N l x v = C := ⟨_, rfl⟩
 obtain ⟨V, hVv⟩ : ∃ V, rsV N l x v = V := ⟨_, rfl⟩
 have HFF := hid hF
 have HC := hid hC
 have HVv := hid hVv
 rw [hF] at HFW
 rw [hC, hVv]
 clear hF hC hVv HF hIx hIv hsx hsv
 by_cases h0 : F = 0
 ·obtain ⟨n, rfl, hR, hxl, hvl⟩ := ftC_two (HFF.out.trans h0)
  have hn8 : n <= 8 := by have := (rt_spec hR).2.1; omega
  have etc : tmC (n : Int) l x = 0 := by unfold tmC; rw [hR, decide_eq_true (by omega)]; rfl
  have etr : tmR (n : Int) l x = tmL n l x := by unfold tmR; rw [if_pos etc]; rfl
  rw [etc, etr] at HT
  have hTl : (tmL n l x).length = n := mk_len _ _
  have HTl := hid hTl
  have HTa := hid (fun i (hi : i < n) => show zth (tmL n l x) i = tmS n l x i n from mk_at hi)
  have HTb := hid (fun i (hi : i < n) => tmS_bp hR HIX.out hxl hi (Nat.le_refl n) hn8)
  have HVi := hid (fun i (hi : i < n) => HIV.out i (by omega))
  have HRb := hid (rsM_bp HTb.out HVi.out)
  have HC2 : Hid (C = if rsM n l x v n < 9223372036854775808 then 0 else 21) := hid (by rw [<- HC.out]; unfold rsC; rw [if_pos (HFF.out.trans h0)]; rfl)
  have HV2 : Hid (V = if C = 0 then rsM n l x v n else 0) := hid (by rw [<- HVv.out, <- HC.out]; rfl)
  have HOV := hid (fun i (hi : i < n) w => of_big (zth v i) (HVi.out i hi).1 (HVi.out i hi).2 w)
  have HVL := hid hvl
  rw [h0] at HFW
  rw [hxl] at HT HFW hBa hUa ⊢
  rw [hvl] at HV HFW hBa hUa ⊢
  clear etc etr hTl hR hxl hvl h0 HFF
  go_enter Tryz.func11, Tryz.ntmps11
  go_wp2_with (first
   | ((with_reducible apply ldM_P); exact rfl; exact rfl; (first | exact hB | exact hB1); exact rfl)
   | (go_at_call 19; (with_reducible refine HFW.out.mono ?_); rintro r w1 ⟨rfl, hu1⟩; have hB1 := hBa.up hu1; have hU1 := hUa.trans hu1)
   | (go_at_call 22; (with_reducible refine (HT.out _ hU1).mono ?_); rintro r w2 ⟨z2, rfl, hu2, hW2⟩; obtain ⟨pz, cz, rfl⟩ := hW2.slice; have hU2 := hU1.trans hu2
      rw [HTl.out])
   | ((with_reducible apply stB_P); exact rfl; exact rfl; exact Blk.new _ _ rfl; exact rfl; exact rfl; exact one2 _ _ _ _
      refine wpL_folded (fun wd => Up w2 wd /\ Blk wd w2.heap.size 66 #[.bool false, .slice none 0 0]) ⟨below_setRow (Up.alloc _ _) (Nat.le_refl _) _, Blk.setRow (Blk.new _ _ rfl) _⟩ ?_
      rintro wM ⟨hXM, hBs⟩))
  obtain ⟨bG, hbG⟩ : ∃ y, w2.heap.size = y := ⟨_, rfl⟩
  rw [hbG] at hBs ⊢
  rw [HTl.out] at hW2
  have HW2 := hid hW2
  clear hW2 hu2 hB1 hBa hUa hW0 hB hU hu1 hU1 HFW HT
  go_loopg [12] n (fun g ti wr => ∃ (i : Nat) (b0 : Bool) (p0 : Option Addr) (n0 c0 : Nat), i <= n /\ n - i <= g /\ ti = .int .i64 (i : Nat) /\ Blk wr bG 66 #[.bool b0, .slice p0 n0 c0] /\ Big wr (.agg #[.bool b0, .slice p0 n0 c0]) (rsM n l x v i) /\ Up w2 wr)
  case atStart => exact ⟨0, false, none, 0, 0, Nat.zero_le _, by omega, rfl, hBs, big_zero _, hXM⟩
  case round =>
   clear hBs hXM
   obtain ⟨i, b0, p0, n0, c0, hi, hig, rfl, hBs, hBg, hu⟩ := hrel
   have hGn := nl_bp (k := 3) (by omega) (HRb.out i hi).2
   by_cases hlt : i < n
   ·obtain ⟨gZ, cZ, CZ, hv, -, hBZ, hE⟩ := (show Bv w2 (.slice pz (tmL n l x).length cz) (tmL n l x) from by rw [HTl.out]; exact HW2.out).open (by rw [HTl.out]; omega)
    rw [HTl.out] at hv
    injection hv with x1 x2 x3
    subst x1 x3
    obtain ⟨bt, pt, nt, ct, h1, h2, h3⟩ := hE i (by rw [HTl.out]; exact hlt)
    rw [HTa.out i hlt] at h3
    have HRg := hid (fun w' (hB : Blk w' gZ 66 CZ) => bigAt_range hB h1 h2)
    have hBZr := hBZ.up hu
    have hbt := h3.up hu
    have hVr := Vw.up (hU2.trans hu) HV.out
    obtain ⟨q', cq', xq, _, hcq⟩ := hVr
    injection xq with y1 y2 y3
    subst y1
    obtain ⟨ad, rfl, hck⟩ := hcq i (by rw [HVL.out]; exact hlt)
    have hp2 := HTb.out i hlt
    have hv64 := HVi.out i hlt
    have HOf := hid (HOV.out i hlt)
    have hRs : rsM n l x v (i + 1) = if rsM n l x v i < (((tmS n l x i n - zth v i).natAbs : Nat) : Int) then (((tmS n l x i n - zth v i).natAbs : Nat) : Int) else rsM n l x v i := rfl
    have e3 : bp 3 = bp 2 * 18446744073709551616 := bp_succ 2
    have e2' : bp 2 = bp 1 * 18446744073709551616 := bp_succ 1
    have e1' : bp 1 = bp 0 * 18446744073709551616 := bp_succ 0
    rw [bp_zero] at e1'
    have hd3 : (tmS n l x i n - zth v i).natAbs < bp 3 := by unfold I64 at hv64; omega
    have hAn := nl_bp (k := 3) (z := (((tmS n l x i n - zth v i).natAbs : Nat) : Int)) (by omega) (by omega)
    have HSb := hid (fun (va vb : Value) (w : World) (h1 : Big w va (tmS n l x i n)) (h2 : Big w vb (zth v i)) => sub_big h1 h2 (nl_bp (k := 2) (by omega) hp2) (nl_bp (k := 2) (by omega) (show (zth v i).natAbs < bp 2 by unfold I64 at hv64; omega)))
    have HRs := hid hRs
    have e1 : IntKind.i64.wrap ((i : Int) + 1) = (i : Int) + 1 := IntWalk.i64_in _ (by omega)
    clear hE h1 h2 h3 x2 hBZ hcq y2 y3 hRs e3 e2' e1' hd3 hp2 hv64
    obtain ⟨vi, hvi⟩ : ∃ y, zth v i = y := ⟨_, rfl⟩
    rw [hvi] at hck HOf HSb HRs hAn
    clear hvi
    generalize tmS n l x i n = S at *
    obtain ⟨dd, hdd⟩ : ∃ dd, S - vi = dd := ⟨_, rfl⟩
    rw [hdd] at HSb HRs hAn
    clear hdd
    have HAm := hid (fun (va : Value) (w : World) (h : Big w va dd) => amount_bigA h)
    obtain ⟨A, hA⟩ : ∃ A, ((dd.natAbs : Nat) : Int) = A := ⟨_, rfl⟩
    rw [hA] at HAm HRs hAn
    clear hA
    obtain ⟨G, hGg⟩ : ∃ G, rsM n l x v i = G := ⟨_, rfl⟩
    rw [hGg] at hBg HRs hGn
    clear hGg
    have HCm := hid (fun (va vb : Value) (w : World) (h1 : Big w va A) (h2 : Big w vb G) => cmp_big h1 h2 hAn hGn)
    clear hAn hGn
    go_wp2_with fail
    refine wp_region_sp (n := 61) 12 [37, 38, 39, 40, 41, 42, 43, 44, 45, 46, 47, 13] [SP.is (.slice (some ⟨gZ, 0, none⟩) n cz), SP.is (.int .i64 (i : Nat)), SP.is (.pointer (some ⟨gZ, i * 2, none⟩)), SP.is (.agg #[.bool bt, .slice pt nt ct]), SP.is (.slice (some ad) n cv), SP.is (.int .i64 (i : Nat)), SP.is (.pointer (some (ad.add i))), SP.is (.int .i64 vi), SP.of (fun v w1 => Big w1 v vi) (fun _ _ _ h hu => h.up hu), SP.of (fun v w1 => Big w1 v dd) (fun _ _ _ h hu => h.up hu), SP.of (fun v w1 => Big w1 v A) (fun _ _ _ h hu => h.up hu), SP.of (fun v w1 => ∃ b, v = .pointer (some ⟨b, 0, none⟩) /\ wr.heap.size <= b /\ Blk w1 b 66 #[.bool false, .slice none 0 0]) (fun _ _ _ h hu => h.imp fun _ k => ⟨k.1, k.2.1, k.2.2.up hu⟩), SP.any] (fun wq => Blk wq gZ 66 CZ /\ wq.cell? (ad.add i) = some (.int .i64 vi) /\ Up wr wq /\ Below w.heap.size w wq) (by kernel_rfl) (by rfl) (by kernel_rfl) (by kernel_rfl) (fun _ _ h hu => ⟨(h.1).up hu, hu.cell (h.2.1), (h.2.2.1).trans hu, below_up (h.2.2.2) hu⟩) ⟨(by first | assumption | exact gBlk), (by assumption), (by first | exact Up.refl _ | assumption), gUp⟩ (fun ev w9 hS9 i o hne hi hev => ?_) (fun gR wE hq hSE huE => ?_)
    ·have ⟨hS1, hS2, hS3, hSB⟩ := hS9
     have hcC := hev.const
     have hcF := hev.func
     have hcG := hev.global
     rcases i with _ | _ | _ | _ | _ | _ | _ | _ | _ | _ | _ | _ | _ | i
     ·obtain rfl := oI hi
      have e9 := hev.other 9 (by kernel_rfl)
      simp [Act.eval] at e9
      exact lV (.slice (some ⟨gZ, 0, none⟩) n cz)
     ·obtain rfl := oI hi
      have e12 := hev.other 12 (by kernel_rfl)
      simp [Act.eval] at e12
      exact lV (.int .i64 (i : Nat))
     ·obtain rfl := oI hi
      have e37 : ev (.tmp 37) = (.slice (some ⟨gZ, 0, none⟩) n cz) := hev.dep 0 37 (by kernel_rfl)
      have e38 : ev (.tmp 38) = (.int .i64 (i : Nat)) := hev.dep 1 38 (by kernel_rfl)
      exact lV (.pointer (some ⟨gZ, i * 2, none⟩))
     ·obtain rfl := oI hi
      have e39 : ev (.tmp 39) = (.pointer (some ⟨gZ, i * 2, none⟩)) := hev.dep 2 39 (by kernel_rfl)
      exact leavesR_value (run_ldB2 rfl e39 (HRg.out _ hS1)) rfl
     ·obtain rfl := oI hi
      have e2 := hev.other 2 (by kernel_rfl)
      simp [Act.eval] at e2
      exact lV (.slice (some ad) n cv)
     ·obtain rfl := oI hi
      have e12 := hev.other 12 (by kernel_rfl)
      simp [Act.eval] at e12
      exact lV (.int .i64 (i : Nat))
     ·obtain rfl := oI hi
      have e41 : ev (.tmp 41) = (.slice (some ad) n cv) := hev.dep 4 41 (by kernel_rfl)
      have e42 : ev (.tmp 42) = (.int .i64 (i : Nat)) := hev.dep 5 42 (by kernel_rfl)
      exact lV (.pointer (some (ad.add i)))
     ·obtain rfl := oI hi
      have e43 : ev (.tmp 43) = (.pointer (some (ad.add i))) := hev.dep 6 43 (by kernel_rfl)
      exact leavesR_value (u := .int .i64 vi) (by go_simp) rfl
     ·obtain rfl := oI hi
      have e44 : ev (.tmp 44) = (.int .i64 vi) := hev.dep 7 44 (by kernel_rfl)
      refine leavesR_call ?_ (HOf.out _)
      go_simp
     ·obtain rfl := oI hi
      have e40 : ev (.tmp 40) = (.agg #[.bool bt, .slice pt nt ct]) := hev.dep 3 40 (by kernel_rfl)
      have e45 : (fun v w1 => Big w1 v vi) (ev (.tmp 45)) w9 := hev.dep 8 45 (by kernel_rfl)
      dsimp only at e45
      obtain ⟨v45, hv45⟩ : ∃ v, ev (.tmp 45) = v := ⟨_, rfl⟩
      rw [hv45] at e45
      refine leavesR_call ?_ (HSb.out _ _ _ (e40 ▸ hbt.up hS3) e45)
      go_simp
     ·obtain rfl := oI hi
      have e46 : (fun v w1 => Big w1 v dd) (ev (.tmp 46)) w9 := hev.dep 9 46 (by kernel_rfl)
      dsimp only at e46
      obtain ⟨v46, hv46⟩ : ∃ v, ev (.tmp 46) = v := ⟨_, rfl⟩
      rw [hv46] at e46
      refine leavesR_call ?_ (HAm.out _ _ e46)
      go_simp
     ·obtain rfl := oI hi
      exact leavesR_up (u := .pointer (some ⟨w9.heap.size, 0, none⟩)) (w' := w9.alloc (.cells #[.bool false, .slice none 0 0] 66)) (by go_simp) (Up.alloc _ _) ⟨_, rfl, hS3.size, Blk.new _ _ rfl⟩
     ·exact absurd rfl hne
     ·exact absurd (show i + 13 < 13 from (Array.getElem?_eq_some_iff.1 hi).1) (by omega)
    have ⟨hS1, hS2, hS3, hSB⟩ := hSE
    have q0 : gR 37 = (.slice (some ⟨gZ, 0, none⟩) n cz) := hq 0 37 (by decide) (by kernel_rfl)
    have q1 : gR 38 = (.int .i64 (i : Nat)) := hq 1 38 (by decide) (by kernel_rfl)
    have q2 : gR 39 = (.pointer (some ⟨gZ, i * 2, none⟩)) := hq 2 39 (by decide) (by kernel_rfl)
    have q3 : gR 40 = (.agg #[.bool bt, .slice pt nt ct]) := hq 3 40 (by decide) (by kernel_rfl)
    have q4 : gR 41 = (.slice (some ad) n cv) := hq 4 41 (by decide) (by kernel_rfl)
    have q5 : gR 42 = (.int .i64 (i : Nat)) := hq 5 42 (by decide) (by kernel_rfl)
    have q6 : gR 43 = (.pointer (some (ad.add i))) := hq 6 43 (by decide) (by kernel_rfl)
    have q7 : gR 44 = (.int .i64 vi) := hq 7 44 (by decide) (by kernel_rfl)
    have q8 : (fun v w1 => Big w1 v vi) (gR 45) wE := hq 8 45 (by decide) (by kernel_rfl)
    dsimp only at q8
    obtain ⟨v45, hv45⟩ : ∃ v, gR 45 = v := ⟨_, rfl⟩
    rw [hv45] at q8
    have q9 : (fun v w1 => Big w1 v dd) (gR 46) wE := hq 9 46 (by decide) (by kernel_rfl)
    dsimp only at q9
    obtain ⟨v46, hv46⟩ : ∃ v, gR 46 = v := ⟨_, rfl⟩
    rw [hv46] at q9
    have q10 : (fun v w1 => Big w1 v A) (gR 47) wE := hq 10 47 (by decide) (by kernel_rfl)
    dsimp only at q10
    obtain ⟨v47, hv47⟩ : ∃ v, gR 47 = v := ⟨_, rfl⟩
    rw [hv47] at q10
    have q11 : (fun v w1 => ∃ b, v = .pointer (some ⟨b, 0, none⟩) /\ wr.heap.size <= b /\ Blk w1 b 66 #[.bool false, .slice none 0 0]) (gR 13) wE := hq 11 13 (by decide) (by kernel_rfl)
    dsimp only at q11
    obtain ⟨v13, hv13⟩ : ∃ v, gR 13 = v := ⟨_, rfl⟩
    rw [hv13] at q11
    refine ⟨fun h => absurd h (by decide), fun o ho => ?_⟩
    obtain rfl := oI ho
    simp only [putL, List.map_cons, List.map_nil, q0, q1, q2, q3, q4, q5, q6, q7, hv45, hv46, hv47, hv13, Act.put, pu1, pu2, pu3]
    clear hq hSE q0 q1 q2 q3 q4 q5 q6 q7
    obtain ⟨b7, rfl, hb7, hBz⟩ := q11
    obtain ⟨bb, ba, bn, bc, rfl⟩ := q10.shape
    refine wp_stB rfl rfl rfl rfl hBz rfl rfl (one2 _ _ _ _) ?_
    have hlG := hBs.lt
    have gB := hBz.setRow #[.bool bb, .slice ba bn bc]
    have gG := big_set (D := #[.bool bb, .slice ba bn bc]) hBz q10
    have gS := Blk.row_other (hBs.up hS3) #[.bool bb, .slice ba bn bc] (show bG ≠ b7 by omega)
    have gSb := big_set (D := #[.bool bb, .slice ba bn bc]) hBz (hBg.up hS3)
    have gU : Up w2 _ := below_setRow (hu.trans hS3) (show w2.heap.size <= b7 from Nat.le_trans hu.size hb7) #[.bool bb, .slice ba bn bc]
    obtain ⟨wK, hwK⟩ : ∃ wK, wE.setRow b7 #[.bool bb, .slice ba bn bc] = wK := ⟨_, rfl⟩
    rw [hwK] at gB gG gS gSb gU ⊢
    clear hwK hBz q8 q9 q10 hS1 hS2 hS3 hSB huE hBs hBg hlG hb7
    by_cases hc : G < A
    ·have dc : decide (cmpZ A G > 0) = true := by unfold cmpZ; rw [if_neg (by omega), if_pos hc]; rfl
     rw [if_pos hc] at HRs
     clear hc
     go_wp2_with (first
      | ((with_reducible apply ldB_P); exact rfl; exact rfl; (first | exact gB | exact gS | exact gB.up hu5); exact rfl)
      | (go_at_call 26; (with_reducible refine (HCm.out _ _ _ gG gSb).mono ?_); rintro r w5 ⟨rfl, hu5⟩)
      | ((with_reducible apply stB_P); exact rfl; exact rfl; exact gS.up hu5; exact rfl; exact rfl; exact one2 _ _ _ _
         refine wpL_folded (fun wd => Up w2 wd /\ Blk wd bG 66 #[.bool bb, .slice ba bn bc] /\ Big wd (.agg #[.bool bb, .slice ba bn bc]) A) ⟨below_setRow (gU.trans hu5) (by omega) _, Blk.setRow (gS.up hu5) _, big_set (gS.up hu5) (gG.up hu5)⟩ ?_
         rintro w6 ⟨hX6, hB6, hG6⟩))
     go_roundg (n - (i + 1))
     case measure => omega
     case rel => exact ⟨i + 1, bb, ba, bn, bc, hlt, Nat.le_refl _, rfl, hB6, by rw [HRs.out]; exact hG6, hX6⟩
    ·have dc : decide (cmpZ A G > 0) = false := by unfold cmpZ; by_cases h1 : A < G; rw [if_pos h1]; rfl; rw [if_neg h1, if_neg hc]; rfl
     rw [if_neg hc] at HRs
     clear hc
     go_wp2_with (first
      | ((with_reducible apply ldB_P); exact rfl; exact rfl; (first | exact gB | exact gS); exact rfl)
      | (go_at_call 26; (with_reducible refine (HCm.out _ _ _ gG gSb).mono ?_); rintro r w5 ⟨rfl, hu5⟩))
     go_roundg (n - (i + 1))
     case measure => omega
     case rel => exact ⟨i + 1, b0, p0, n0, c0, hlt, Nat.le_refl _, rfl, gS.up hu5, by rw [HRs.out]; exact gSb.up hu5, gU.trans hu5⟩
   ·obtain rfl : i = n := by omega
    have HI64 := hid (fun (va : Value) (w : World) (h : Big w va (rsM i l x v i)) => int64_big h hGn)
    have h0R := (HRb.out i hi).1
    by_cases hc : rsM i l x v i < 9223372036854775808
    ·rw [i64V_yes (by omega)] at HI64
     have HC3 : Hid (C = 0) := hid (by rw [HC2.out]; exact if_pos hc)
     have HV3 : Hid (V = rsM i l x v i) := hid (by rw [HV2.out, HC3.out]; rfl)
     clear hc h0R hGn
     generalize rsM i l x v i = G at *
     go_wp2_with (first
      | ((with_reducible apply ldB_P); exact rfl; exact rfl; exact hBs; exact rfl)
      | (go_at_call 27; (with_reducible refine (HI64.out _ _ hBg).mono ?_); rintro r w5 ⟨rfl, hu5⟩))
     go_ret2
     exact ⟨by rw [HV3.out, HC3.out]; rfl, hU2.trans (hu.trans hu5)⟩
    ·rw [i64V_no (by omega)] at HI64
     have HC3 : Hid (C = 21) := hid (by rw [HC2.out]; exact if_neg hc)
     have HV3 : Hid (V = 0) := hid (by rw [HV2.out, HC3.out]; rfl)
     clear hc h0R hGn
     generalize rsM i l x v i = G at *
     go_wp2_with (first
      | ((with_reducible apply ldB_P); exact rfl; exact rfl; exact hBs; exact rfl)
      | (go_at_call 27; (with_reducible refine (HI64.out _ _ hBg).mono ?_); rintro r w5 ⟨rfl, hu5⟩))
     go_ret2
     exact ⟨by rw [HV3.out, HC3.out]; rfl, hU2.trans (hu.trans hu5)⟩
 ·have HC2 : Hid (C = F) := hid (by rw [<- HC.out]; unfold rsC; rw [HFF.out]; exact if_neg h0)
  have HV2 : Hid (V = 0) := hid (by rw [<- HVv.out]; unfold rsV; rw [HC.out, HC2.out]; exact if_neg h0)
  have d0 : (F != 0) = true := by simpa using h0
  clear h0
  go_enter Tryz.func11, Tryz.ntmps11
  go_wp2_with (first
   | ((with_reducible apply ldM_P); exact rfl; exact rfl; exact hB; exact rfl)
   | (go_at_call 19; (with_reducible refine HFW.out.mono ?_); rintro r w1 ⟨rfl, hu1⟩))
  go_ret2
  exact ⟨by rw [HV2.out, HC2.out]; rfl, hUa.trans hu1⟩
theorem own_two {w : World} {base : Nat} {t : TypeId} {s x y : Value} (h : w.ownsRow base t 1 s 2 [x, y]) : ∃ g cap C, s = .slice (some ⟨g, 0, none⟩) 2 cap /\ Blk w g t C /\ C[0]? = some x := by
 obtain ⟨_, h0 | ⟨g, cap, cur, rfl, _, hb, _, _, hsz, htake⟩⟩ := h
 ·exact absurd h0.2 (by decide)
 ·refine ⟨g, cap, cur, rfl, hb, ?_⟩
  rw [<- Array.getElem?_toList, <- List.getElem?_take_of_lt (show 0 < 2 * 1 by decide), htake]; rfl
theorem cgsays_any {u : Value} {e : Int} {w : World} (h : ErrsC w u e) (hg : Glob w) :
   Calls Tryz.prog 10 #[u, .int .i64 e] w fun r w' => r = .returned (.bool true) /\ Up w w' := by
 rcases h with ⟨rfl, rfl⟩ | ⟨h0, t, x, rfl, hE⟩
 ·go_enter Tryz.func10, Tryz.ntmps10
  go_wp2_with fail
  go_ret
  exact ⟨rfl, Up.refl _⟩
 ·have d : (e == 0) = false := by simpa using h0
  have HO := hid (fun w' (hu : Up w w') => ops_any (hE.up hu) (show 2 < 1000000 by decide))
  have HC := hid (fun w' (hu : Up w w') => code_any (hE.up hu) (hg.up hu))
  have de : (e == e) = true := by simp
  have dB : (cgB.toList == [99, 103]) = true := by rw [show cgB.toList = [99, 103] from by rw [ByteArray.toList_eq]; rfl]; rfl
  clear hE hg h0
  go_enter Tryz.func10, Tryz.ntmps10
  go_wp2_with (first
   | (go_at_call 20; (with_reducible refine (HO.out _ (Up.refl _)).mono ?_); rintro r w1 ⟨s, rfl, hu1, hs⟩; obtain ⟨g, cap, C, rfl, hB, h0⟩ := own_two hs)
   | (go_at_call 21; (with_reducible refine (HC.out _ hu1).mono ?_); rintro r w2 ⟨rfl, hu2⟩; have hc := (hB.up hu2).cell 0 h0; have de2 : ((Er.flt cgB (.flt solveB (.num e))).first.getD 36 == e) = true := by (show (e == e) = true; simp)))
  go_ret
  exact ⟨rfl, hu1.trans hu2⟩
theorem ftC_sole {N : Int} {l S : List Int} (hR : rt N l = true) : ftC N l [S] = if (S.length : Int) = N then (if S.all vfit = true then 0 else 21) else 23 := by
 have c1 : (∀ i, i < [S].length -> (([S].getD i []).length : Int) = N) ↔ (S.length : Int) = N := ⟨fun h => h 0 (by simp), fun h i hi => by
  rcases i with _ | i
  ·exact h
  ·simp at hi⟩
 have c2 : (∀ i, i < [S].length -> ([S].getD i []).all vfit = true) ↔ S.all vfit = true := ⟨fun h => h 0 (by simp), fun h i hi => by
  rcases i with _ | i
  ·exact h
  ·simp at hi⟩
 unfold ftC
 simp only [hR, true_and, c1, c2]
theorem ftC_pair {N : Int} {l S V : List Int} (hR : rt N l = true) (hV : (V.length : Int) = N) (hf : V.all vfit = true) : ftC N l [S, V] = if (S.length : Int) = N then (if S.all vfit = true then 0 else 21) else 23 := by
 have c1 : (∀ i, i < [S, V].length -> (([S, V].getD i []).length : Int) = N) ↔ (S.length : Int) = N := ⟨fun h => h 0 (by simp), fun h i hi => by
  rcases i with _ | _ | i
  ·exact h
  ·exact hV
  ·simp at hi; omega⟩
 have c2 : (∀ i, i < [S, V].length -> ([S, V].getD i []).all vfit = true) ↔ S.all vfit = true := ⟨fun h => h 0 (by simp), fun h i hi => by
  rcases i with _ | _ | i
  ·exact h
  ·exact hf
  ·simp at hi; omega⟩
 unfold ftC
 simp only [hR, true_and, c1, c2]
theorem fine_rs {N : Int} {l V S : List Int} (h0 : neC N l V = 0) (h1 : ftC N l [S] ≠ 0) : rsC N l S V = ftC N l [S] := by
 have hs : slC N l V = 0 := by
  unfold neC at h0
  by_cases h : slC N l V = 0
  ·exact h
  ·rw [if_neg h] at h0; exact absurd h0 h
 have hf : ftC N l [V] = 0 := by
  unfold slC at hs
  by_cases h : ftC N l [V] = 0
  ·exact h
  ·rw [if_neg h] at hs; exact absurd hs h
 have hR : rt N l = true := by
  unfold ftC at hf
  by_cases h : rt N l = true /\ ∀ i, i < [V].length -> (([V].getD i []).length : Int) = N
  ·exact h.1
  ·rw [if_neg h] at hf; exact absurd hf (by decide)
 rw [ftC_sole hR] at hf
 have hV : (V.length : Int) = N := by
  by_cases h : (V.length : Int) = N
  ·exact h
  ·rw [if_neg h] at hf; exact absurd hf (by decide)
 rw [if_pos hV] at hf
 have hv : V.all vfit = true := by
  by_cases h : V.all vfit = true
  ·exact h
  ·rw [if_neg h] at hf; exact absurd hf (by decide)
 unfold rsC
 rw [ftC_pair hR hV hv, <- ftC_sole hR, if_neg h1]
set_option maxHeartbeats 8000000 in
theorem want_any {mv vv sv : Value} {N : Int} {l V S : List Int} {w : World} (hm : Sm w mv N l) (hv : Vw w vv V) (hs : Vw w sv S) (hIv : In64 V) (hIs : In64 S) (hlv : V.length <= 1000) (hls : S.length <= 1000) :
   Calls Tryz.prog 9 #[mv, vv, sv] w fun r w' => r = .returned (.int .i64 (cgC N l V S)) /\ Up w w' := by
 have HN := hid (fun w' (hu : Up w w') => rnear_any (hm.up hu) (Vw.up hu hv) hIv hlv)
 have HF := hid (fun w' (hu : Up w w') => rfine_any (hm.up (hu.trans (Up.alloc w' (.cells #[sv] 22)))) (lv_one (Vw.up hu hs)) (fun i => by rcases i with _ | i; exact hIs; exact fun j hj => absurd hj (Nat.not_lt_zero _)) (fun i => by rcases i with _ | i; exact hls; exact Nat.zero_le _) (show 1 <= 9 by decide))
 have HR := hid (fun w' (hu : Up w w') => rresidual_any (hm.up hu) (Vw.up hu hs) (Vw.up hu hv) hIs hIv hls hlv)
 have HE : Hid (neC N l V = 0 -> ftC N l [S] ≠ 0 -> rsC N l S V = ftC N l [S]) := hid fine_rs
 obtain ⟨pv, cv, rfl, -, -⟩ := hv
 obtain ⟨ps, cs, rfl, -, -⟩ := hs
 obtain ⟨s, rfl, ⟨p, cap, rfl, -, -⟩, -, -, -⟩ := hm
 obtain ⟨W0, hW0⟩ : ∃ W0, w.alloc (.cells #[.int .i64 N, .slice p l.length cap] 24) = W0 := ⟨_, rfl⟩
 have hB : Blk W0 w.heap.size 24 #[.int .i64 N, .slice p l.length cap] := by rw [<- hW0]; exact Blk.new _ _ rfl
 have hU : Up w W0 := by rw [<- hW0]; exact Up.alloc _ _
 clear hIv hIs hlv hls
 unfold RNearPost at HN
 have HC : Hid (cgC N l V S = if neC N l V = 0 then rsC N l S V else neC N l V) := hid rfl
 generalize cgC N l V S = C at *
 generalize neC N l V = E at *
 generalize ftC N l [S] = F at *
 generalize rsC N l S V = R at *
 by_cases h0 : E = 0
 ·have d0 : (E != 0) = false := by simpa using h0
  have H0 := hid h0
  by_cases h1 : F = 0
  ·have d1 : (F != 0) = false := by simpa using h1
   have HC2 : Hid (C = R) := hid (HC.out.trans (if_pos h0))
   clear h0 h1
   go_enter Tryz.func9, Tryz.ntmps9
   go_wp2_with (first
    | ((with_reducible apply ldM_P); exact rfl; exact rfl; (first | exact hB | exact hB1 | exact hB2); exact rfl)
    | (go_at_call 13; (with_reducible refine (HN.out _ hU).mono ?_); rintro r w1 ⟨z1, rfl, hu1, -⟩; have hB1 := hB.up hu1; have hU1 := hU.trans hu1)
    | (go_at_call 19; (with_reducible refine (HF.out _ hU1).mono ?_); rintro r w2 ⟨rfl, hu2⟩; have hU2 := hU1.trans ((Up.alloc _ _).trans hu2); have hB2 := hB1.up ((Up.alloc _ _).trans hu2))
    | (go_at_call 11; (with_reducible refine (HR.out _ hU2).mono ?_); rintro r w3 ⟨rfl, hu3⟩))
   go_ret
   exact ⟨by rw [HC2.out]; rfl, hU2.trans hu3⟩
  ·have d1 : (F != 0) = true := by simpa using h1
   have HC2 : Hid (C = F) := hid (HC.out.trans ((if_pos h0).trans (HE.out h0 h1)))
   clear h0 h1
   go_enter Tryz.func9, Tryz.ntmps9
   go_wp2_with (first
    | ((with_reducible apply ldM_P); exact rfl; exact rfl; (first | exact hB | exact hB1); exact rfl)
    | (go_at_call 13; (with_reducible refine (HN.out _ hU).mono ?_); rintro r w1 ⟨z1, rfl, hu1, -⟩; have hB1 := hB.up hu1; have hU1 := hU.trans hu1)
    | (go_at_call 19; (with_reducible refine (HF.out _ hU1).mono ?_); rintro r w2 ⟨rfl, hu2⟩; have hU2 := hU1.trans ((Up.alloc _ _).trans hu2)))
   go_ret
   exact ⟨by rw [HC2.out]; rfl, hU2⟩
 ·have d0 : (E != 0) = true := by simpa using h0
  have HC2 : Hid (C = E) := hid (HC.out.trans (if_neg h0))
  clear h0
  go_enter Tryz.func9, Tryz.ntmps9
  go_wp2_with (first
   | ((with_reducible apply ldM_P); exact rfl; exact rfl; exact hB; exact rfl)
   | (go_at_call 13; (with_reducible refine (HN.out _ hU).mono ?_); rintro r w1 ⟨z1, rfl, hu1, -⟩; have hU1 := hU.trans hu1))
  go_ret
  exact ⟨by rw [HC2.out]; rfl, hU1⟩
theorem k_cg : cgC 2 [2, 1, 2] [3, 3] [1, 1] = 0 /\ rsV 2 [2, 1, 2] [1, 1] [3, 3] = 0 := by decide +kernel
theorem k_cgbad : cgC 1 [0] [1] [1] = 30 := by decide +kernel
set_option maxHeartbeats 16000000 in
theorem cgknown_true {w : World} (hg : Glob w) :
   Calls Tryz.prog 5 #[] w fun r w' => r = .returned (.bool true) /\ Up w w' := by
 have HG := hid (fun w' (hu : Up w w') => hg.up hu)
 have hW := vw_three w 2 1 2
 obtain ⟨wA, hwA⟩ : ∃ y, w.alloc (.cells #[.int .i64 2, .int .i64 1, .int .i64 2] 2) = y := ⟨_, rfl⟩
 have hUA : Up w wA := by rw [<- hwA]; exact Up.alloc _ _
 obtain ⟨bA, hbA⟩ : ∃ y, w.heap.size = y := ⟨_, rfl⟩
 rw [hwA, hbA] at hW
 obtain ⟨wB, hwB⟩ : ∃ y, wA.alloc (.cells #[.int .i64 2, .slice (some ⟨bA, 0, none⟩) 3 3] 24) = y := ⟨_, rfl⟩
 have hB : Blk wB wA.heap.size 24 #[.int .i64 2, .slice (some ⟨bA, 0, none⟩) 3 3] := by rw [<- hwB]; exact Blk.new _ _ rfl
 have hUB : Up wA wB := by rw [<- hwB]; exact Up.alloc _ _
 obtain ⟨bB, hbB⟩ : ∃ y, wA.heap.size = y := ⟨_, rfl⟩
 rw [hbB] at hB
 have HS := hid (fun w' (hu : Up wB w') => sm_ex (Vw.up (hUB.trans hu) hW))
 have i1 : I64 1 := by unfold I64; decide
 have i3 : I64 3 := by unfold I64; decide
 have HR := hid (fun w' (hu : Up wB w') => show Calls Tryz.prog 8 #[.agg #[.int .i64 2, .slice (some ⟨bA, 0, none⟩) 3 3], .slice (some ⟨w'.heap.size, 0, none⟩) 2 2, .slice (some ⟨w'.heap.size + 1, 0, none⟩) 2 2, .int .i64 9, .int .i64 0] ((w'.alloc (.cells #[.int .i64 3, .int .i64 3] 2)).alloc (.cells #[.int .i64 1, .int .i64 1] 2)) fun r w'' => ∃ z, r = .returned (.tuple #[z, .int .i64 0, .nilIface]) /\ Up ((w'.alloc (.cells #[.int .i64 3, .int .i64 3] 2)).alloc (.cells #[.int .i64 1, .int .i64 1] 2)) w'' /\ Vw w'' z [1, 1] from by
  have h2 := vw_two (w'.alloc (.cells #[.int .i64 3, .int .i64 3] 2)) 1 1
  rw [show (w'.alloc (.cells #[.int .i64 3, .int .i64 3] 2)).heap.size = w'.heap.size + 1 from by simp] at h2
  have h := (run_any (most := 9) (enough := 0) (HS.out _ (hu.trans ((Up.alloc w' _).trans (Up.alloc _ _)))) (Vw.up (Up.alloc _ _) (vw_two w' 3 3)) h2 (in64_pair i3 i3) (in64_pair i1 i1) (by simp) (by simp)).2 k_cg.1
  refine h.mono ?_
  rintro r w1 ⟨z, X, k, rfl, hu1, hV, -, -, -, -, -, -, h5⟩
  obtain ⟨rfl, rfl⟩ := h5 (by rw [k_cg.2]; exact Int.le_refl _)
  exact ⟨z, rfl, hu1, hV⟩)
 have HT := hid (fun w' (hu : Up wB w') => show Calls Tryz.prog 12 #[.agg #[.int .i64 2, .slice (some ⟨bA, 0, none⟩) 3 3], .slice (some ⟨w'.heap.size, 0, none⟩) 2 2, .slice (some ⟨w'.heap.size + 1, 0, none⟩) 2 2, .int .i64 0] ((w'.alloc (.cells #[.int .i64 3, .int .i64 3] 2)).alloc (.cells #[.int .i64 1, .int .i64 1] 2)) fun r w'' => ∃ z, r = .returned (.tuple #[z, .bool true, .nilIface]) /\ Up ((w'.alloc (.cells #[.int .i64 3, .int .i64 3] 2)).alloc (.cells #[.int .i64 1, .int .i64 1] 2)) w'' /\ Vw w'' z [1, 1] from by
  have h2 := vw_two (w'.alloc (.cells #[.int .i64 3, .int .i64 3] 2)) 1 1
  rw [show (w'.alloc (.cells #[.int .i64 3, .int .i64 3] 2)).heap.size = w'.heap.size + 1 from by simp] at h2
  have h := (settle_any (enough := 0) (HS.out _ (hu.trans ((Up.alloc w' _).trans (Up.alloc _ _)))) (Vw.up (Up.alloc _ _) (vw_two w' 3 3)) h2 (in64_pair i3 i3) (in64_pair i1 i1) (by simp) (by simp)).2 k_cg.1
  refine h.mono ?_
  rintro r w1 ⟨z, X, ok, rfl, hu1, hV, -, -, -, -, h5⟩
  obtain ⟨rfl, rfl⟩ := h5 (by rw [k_cg.2]; exact Int.le_refl _)
  exact ⟨z, rfl, hu1, hV⟩)
 have HX := hid (fun (w' : World) => show Calls Tryz.prog 8 #[.agg #[.int .i64 1, .slice (some ⟨w'.heap.size, 0, none⟩) 1 1], .slice (some ⟨w'.heap.size + 1, 0, none⟩) 1 1, .slice (some ⟨w'.heap.size + 1 + 1, 0, none⟩) 1 1, .int .i64 9, .int .i64 0] (((w'.alloc (.cells #[.int .i64 0] 2)).alloc (.cells #[.int .i64 1] 2)).alloc (.cells #[.int .i64 1] 2)) fun r w'' => ∃ u, r = .returned (.tuple #[.slice none 0 0, .int .i64 0, u]) /\ Up (((w'.alloc (.cells #[.int .i64 0] 2)).alloc (.cells #[.int .i64 1] 2)).alloc (.cells #[.int .i64 1] 2)) w'' /\ ErrsC w'' u 30 from by
  have h2 := vw_one (w'.alloc (.cells #[.int .i64 0] 2)) 1
  have h3 := vw_one ((w'.alloc (.cells #[.int .i64 0] 2)).alloc (.cells #[.int .i64 1] 2)) 1
  rw [show (w'.alloc (.cells #[.int .i64 0] 2)).heap.size = w'.heap.size + 1 from by simp] at h2
  rw [show ((w'.alloc (.cells #[.int .i64 0] 2)).alloc (.cells #[.int .i64 1] 2)).heap.size = w'.heap.size + 1 + 1 from by simp] at h3
  have h := (run_any (most := 9) (enough := 0) (sm_nought (Vw.up (Up.alloc _ _) (Vw.up (Up.alloc _ _) (vw_one w' 0)))) (Vw.up (Up.alloc _ _) h2) h3 (in64_sole i1) (in64_sole i1) (by simp) (by simp)).1 (by rw [k_cgbad]; decide)
  refine h.mono ?_
  rintro r w1 ⟨u, rfl, hu1, he⟩
  rw [k_cgbad] at he
  exact ⟨u, rfl, hu1, he⟩)
 have hU := hUA.trans hUB
 clear hg hW hUA hUB i1 i3
 go_enter Tryz.func5, Tryz.ntmps5
 go_upto_region 4 with (first
  | ((with_reducible apply ldM_P); exact rfl; exact rfl; (first | exact hB | exact hB1); exact rfl)
  | (go_at_call 8; (with_reducible refine (HR.out _ (Up.refl _)).mono ?_); rintro r w1 ⟨z1, rfl, hu1, hV1⟩; have hU1 := (Up.alloc wB _).trans ((Up.alloc _ _).trans hu1); have hB1 := hB.up hU1; obtain ⟨p1, c1, rfl, -, -⟩ := id hV1; change Vw w1 (.slice p1 2 c1) [1, 1] at hV1)
  | (go_at_call 12; (with_reducible refine (HT.out _ hU1).mono ?_); rintro r w2 ⟨z2, rfl, hu2, hV2⟩; have hU2 := (Up.alloc w1 _).trans ((Up.alloc _ _).trans hu2); obtain ⟨p2, c2, rfl, -, -⟩ := id hV2; change Vw w2 (.slice p2 2 c2) [1, 1] at hV2))
 have hV1' := Vw.up hU2 hV1
 have hU3 := hU.trans (hU1.trans hU2)
 clear hV1 hu1 hu2 hB1 hB hwA hwB hbA hbB HS HR HT
 go_wp2_with (first
  | (go_at_call 8; (with_reducible refine (HX.out _).mono ?_); rintro r w3 ⟨u3, rfl, hu3, he3⟩; have hU4 := (Up.alloc w2 _).trans ((Up.alloc _ _).trans ((Up.alloc _ _).trans hu3)); have hU5 := hU3.trans hU4; have hV14 := Vw.up hU4 hV1'; have hV24 := Vw.up hU4 hV2)
  | (go_at_call 14; first
     | ((with_reducible refine (ints_eq (Vw.up (Up.alloc _ _) hV14) (vw_two _ 1 1) (by simp)).mono ?_); rintro r w4 ⟨rfl, hu4⟩; have hU6 := (Up.alloc w3 _).trans hu4)
     | ((with_reducible refine (ints_eq (Vw.up hU6 hV24) (Vw.up hU6 hV14) (by simp)).mono ?_); rintro r w5 ⟨rfl, hu5⟩))
  | (go_at_call 10; (with_reducible refine (cgsays_any (he3.up (hU6.trans hu5)) (HG.out _ (hU5.trans (hU6.trans hu5)))).mono ?_); rintro r w6 ⟨rfl, hu6⟩))
 go_ret
 exact ⟨rfl, hU5.trans (hU6.trans (hu5.trans hu6))⟩
def MV (w : World) (v : Value) : Prop := ∃ N L, SmO w v N L
theorem MV.up {w w' : World} (hu : Up w w') {v : Value} (h : MV w v) : MV w' v := by obtain ⟨N, L, h⟩ := h; exact ⟨N, L, h.up hu⟩
def Pair (a0 : Int) (s0 : Value) (w : World) (v : Value) : Prop :=
 ∃ g N1 s1 L1, v = .slice (some ⟨g, 0, none⟩) 2 2 /\ Blk w g 24 #[.int .i64 a0, s0, .int .i64 N1, s1] /\ SmO w (.agg #[.int .i64 N1, s1]) N1 L1
theorem Pair.up {a0 : Int} {s0 : Value} {w w' : World} (hu : Up w w') {v : Value} (h : Pair a0 s0 w v) : Pair a0 s0 w' v := by
 obtain ⟨g, N1, s1, L1, h1, h2, h3⟩ := h
 exact ⟨g, N1, s1, L1, h1, h2.up hu, h3.up hu⟩
def IsRowX (k : IntKind) (w : World) (a : Option Addr) (len cap : Nat) (zs : List Int) : Prop :=
 (a = none /\ len = 0 /\ cap = 0 /\ zs = []) \/
 ∃ x, a = some x /\ len <= cap /\ cap <= maxLen /\ zs.length = cap /\ (∀ i, i < zs.length -> w.cell? (x.add i) = some (.int k (zs.getD i 0))) /\ ∀ n ∈ zs, (Lit.int k n).wf = true
theorem zth_take {l : List Int} {k i : Nat} (h : i < k) : zth (l.take k) i = zth l i := by
 unfold zth
 rw [List.getD_eq_getElem?_getD, List.getD_eq_getElem?_getD, List.getElem?_take_of_lt h]
theorem wf_i64 {z : Int} (h : (Lit.int .i64 z).wf = true) : I64 z := by
 have := (Lit.wf_int_iff .i64 z).1 h
 rw [IntKind.min_i64, IntKind.max_i64] at this
 unfold I64; omega
theorem wf_nat {k : IntKind} {z : Int} {m : Nat} (h : (Lit.int k z).wf = true) (h0 : k.min = 0) (h1 : k.max = (m : Int)) : ∃ n : Nat, z = (n : Int) /\ n < m + 1 := by
 have := (Lit.wf_int_iff k z).1 h
 rw [h0, h1] at this
 exact ⟨z.toNat, by omega, by omega⟩
theorem vw_row {w : World} {a : Option Addr} {len cap : Nat} {zs : List Int} (h : IsRowX .i64 w a len cap zs) : Vw w (.slice a len cap) (zs.take len) /\ In64 (zs.take len) := by
 rcases h with ⟨rfl, rfl, rfl, rfl⟩ | ⟨x, rfl, hl, hm, hz, hc, hw⟩
 ·exact ⟨⟨none, 0, rfl, ⟨Nat.le_refl _, fun _ => rfl⟩, fun i hi => absurd hi (Nat.not_lt_zero _)⟩, fun i hi => absurd hi (Nat.not_lt_zero _)⟩
 ·have e : (zs.take len).length = len := by rw [List.length_take]; omega
  refine ⟨⟨some x, cap, by rw [e], ⟨by rw [e]; exact hl, fun e => by cases e⟩, fun i hi => ⟨x, rfl, ?_⟩⟩, fun i hi => ?_⟩
  ·rw [e] at hi
   rw [zth_take hi]
   exact hc i (by omega)
  ·rw [e] at hi
   rw [zth_take hi, zth_get (by omega)]
   exact wf_i64 (hw _ (List.getElem_mem _))
theorem vh_row {w : World} {a : Option Addr} {len cap : Nat} {zs : List Int} (h : IsRowX .i16 w a len cap zs) : Vh w (.slice a len cap) (zs.take len) /\ In16 (zs.take len) := by
 rcases h with ⟨rfl, rfl, rfl, rfl⟩ | ⟨x, rfl, hl, hm, hz, hc, hw⟩
 ·exact ⟨⟨none, 0, rfl, fun i hi => absurd hi (Nat.not_lt_zero _)⟩, fun i hi => absurd hi (Nat.not_lt_zero _)⟩
 ·have e : (zs.take len).length = len := by rw [List.length_take]; omega
  refine ⟨⟨some x, cap, by rw [e], fun i hi => ⟨x, rfl, ?_⟩⟩, fun i hi => ?_⟩
  ·rw [e] at hi
   rw [zth_take hi]
   exact hc i (by omega)
  ·rw [e] at hi
   rw [zth_take hi, zth_get (by omega)]
   have := (Lit.wf_int_iff .i16 _).1 (hw (zs[i]'(by omega)) (List.getElem_mem _))
   rw [IntKind.min_i16, IntKind.max_i16] at this
   omega
theorem cg_fold {P : Program} {c : Code} {Q : Exit -> Act -> World -> Prop} {a : Act} {w : World} (R : World -> Prop) (h : R w) (k : ∀ w', R w' -> c.wp P Q a w') : c.wp P Q a w := k w h
theorem cgsays_ok {w : World} (hg : Glob w) : Calls Tryz.prog 10 #[.nilIface, .int .i64 0] w fun r w' => r = .returned (.bool true) /\ Up w w' := cgsays_any (.inl ⟨rfl, rfl⟩) hg
end Go.Proofs.YtahifcannoekhaaGreatDoor
