/-
  Frames: what comes piece by piece.
-/
import Derived.Test.YtmpikkhfeogdcaaFr4
namespace Go.Proofs.Ytmpikkhfeogdcaa
open Go Go.RowKit
set_option maxRecDepth 100000

theorem gb_trans {a b c : World} {r : Option Nat} (h : a.grownBy b r) (k : b.grownBy c r) : a.grownBy c r :=
  ⟨k.os.trans h.os, k.tape.trans h.tape, k.output.trans h.output, Nat.le_trans h.size k.size, fun i hi hn => (k.block i (Nat.lt_of_lt_of_le hi h.size) hn).trans (h.block i hi hn)⟩
theorem gb_up {a b c : World} {r : Option Nat} (h : a.grownBy b r) (k : Up b c) : a.grownBy c r :=
  ⟨k.os.trans h.os, k.tape.trans h.tape, k.output.trans h.output, Nat.le_trans h.size k.size, fun i hi hn => (k.block i (Nat.lt_of_lt_of_le hi h.size)).trans (h.block i hi hn)⟩
theorem gb_below {a b c : World} {r : Option Nat} {B : Nat} (h : a.grownBy b r) (k : Below B b c) (hB : a.heap.size ≤ B) : a.grownBy c r :=
  ⟨k.os.trans h.os, k.tape.trans h.tape, k.output.trans h.output, Nat.le_trans h.size k.size, fun i hi hn => (k.block i (Nat.lt_of_lt_of_le hi hB)).trans (h.block i hi hn)⟩
theorem gb_set (w : World) (g k : Nat) (v : Value) : w.grownBy (w.setCell ⟨g, k, none⟩ v) (some g) :=
  ⟨rfl, rfl, rfl, by simp [World.setCell], fun i hi hn => Below.heap_setCell _ _ _ _ fun e => hn (congrArg some e)⟩
theorem gb_of_below {a b : World} (r : Option Nat) (h : Below a.heap.size a b) : a.grownBy b r := gb_below (World.grownBy.refl a r) h (Nat.le_refl _)
theorem below_gb {a b c : World} {B g : Nat} (h : Below B a b) (k : b.grownBy c (some g)) (hB : B ≤ b.heap.size) (hg : B ≤ g) : Below B a c := Below.grown h k hB fun j e => by injection e with e; omega

/-- The rows of a list lie from block base on. -/
def RU (base : Nat) : World → Value → List Nat → Prop := fun w x l => OwnU w base x l
theorem RU.keep {base : Nat} (w w' : World) (x : Value) (l : List Nat) (h : KeepX w w') (k : RU base w x l) : RU base w' x l := OwnU.keepX k h
/-- How far a parser has come: k bytes of L are gone; T told, B bad. -/
def FeedI (w2 : World) (g : Nat) (v : Value) (L : List Nat) (b k : Nat) (T : List (List Nat)) (B : Nat) (tv : Value) (wr : World) : Prop :=
  w2.grownBy wr (some g) ∧ wr.heap[g]? = some (.cells #[v, .int .i64 ((b + B : Nat) : Int)] 42) ∧ OwnL (RU w2.heap.size) wr w2.heap.size tv T ∧ pz L = (T ++ (pz (L.drop k)).1, B + (pz (L.drop k)).2.1, (pz (L.drop k)).2.2)
/-- What reads as l, however the world grows and whatever becomes of block g. -/
def Sty (w2 : World) (g : Nat) (v : Value) (l : List Nat) : Prop := ∀ w', w2.grownBy w' (some g) → Bw w' v l
theorem FeedI.few {w2 : World} {g : Nat} {v : Value} {L : List Nat} {b k : Nat} {T : List (List Nat)} {B : Nat} {tv : Value} {wr : World} (h : FeedI w2 g v L b k T B tv wr) : T.length + (pz (L.drop k)).1.length ≤ L.length ∧ B + (pz (L.drop k)).2.1 ≤ L.length := by
  obtain ⟨_, _, _, h4⟩ := h
  have := pz_few L
  rw [h4] at this
  simpa using this
theorem FeedI.up {w2 : World} {g : Nat} {v : Value} {L : List Nat} {b k : Nat} {T : List (List Nat)} {B : Nat} {tv : Value} {wr w' : World} (h : FeedI w2 g v L b k T B tv wr) (hu : Up wr w') : FeedI w2 g v L b k T B tv w' := by
  obtain ⟨h1, h2, h3, h4⟩ := h
  exact ⟨gb_up h1 hu, hu.row h2, h3.up hu fun x l hx => OwnU.up hu hx, h4⟩
theorem FeedI.noise {w2 : World} {g : Nat} {v : Value} {L : List Nat} {b k : Nat} {T : List (List Nat)} {B : Nat} {tv : Value} {wr : World} (h : FeedI w2 g v L b k T B tv wr) (h0 : (L.drop k).length ≠ 0) (hk : (jd (L.drop k)).1 = 0) (hs : (jd (L.drop k)).2 = 1) : FeedI w2 g v L b (k + 1) T B tv wr := by
  obtain ⟨h1, h2, h3, h4⟩ := h
  refine ⟨h1, h2, h3, ?_⟩
  rw [h4, pz_step h0 (by rw [hk]; decide)]
  unfold pzN
  rw [hk, hs, List.drop_drop]
  rfl
theorem FeedI.bad {w2 : World} {g : Nat} {v : Value} {L : List Nat} {b k : Nat} {T : List (List Nat)} {B : Nat} {tv : Value} {wr : World} (h : FeedI w2 g v L b k T B tv wr) (hg : g < w2.heap.size) (h0 : (L.drop k).length ≠ 0) (hk : (jd (L.drop k)).1 = 1) (hs : (jd (L.drop k)).2 = 1) :
    FeedI w2 g v L b (k + 1) T (B + 1) tv (wr.setCell ⟨g, 1, none⟩ (.int .i64 (((b + B : Nat) : Int) + 1))) := by
  obtain ⟨h1, h2, h3, h4⟩ := h
  refine ⟨gb_trans h1 (gb_set _ _ _ _), ?_, h3.but (gb_set _ _ _ _) hg fun x l hx => OwnU.but hx (gb_set _ _ _ _) hg, ?_⟩
  · rw [heap_setCell_same _ _ _ _ _ _ h2]
    rfl
  · rw [h4, pz_step h0 (by rw [hk]; decide)]
    unfold pzN
    rw [hk, hs, List.drop_drop]
    refine Prod.ext rfl (Prod.ext ?_ rfl)
    dsimp only
    rw [if_pos rfl]
    omega
theorem FeedI.frame {w2 : World} {g : Nat} {v : Value} {L : List Nat} {b k s : Nat} {T : List (List Nat)} {B : Nat} {tv tv' : Value} {wr w' : World} (h : FeedI w2 g v L b k T B tv wr) (h0 : (L.drop k).length ≠ 0) (hk : (jd (L.drop k)).1 = 3) (hs : (jd (L.drop k)).2 = s) (hx : KeepX wr w') (hb : Below w2.heap.size wr w') (hT : OwnL (RU w2.heap.size) w' w2.heap.size tv' (T ++ [((L.drop k).take (s - 2)).drop 3])) :
    FeedI w2 g v L b (k + s) (T ++ [((L.drop k).take (s - 2)).drop 3]) B tv' w' := by
  obtain ⟨h1, h2, h3, h4⟩ := h
  refine ⟨gb_below h1 hb (Nat.le_refl _), hx _ _ _ _ (by decide) h2, hT, ?_⟩
  rw [h4, pz_step h0 (by rw [hk]; decide)]
  unfold pzN
  rw [hk, hs, List.drop_drop]
  dsimp only
  rw [if_pos rfl, if_neg (by decide), List.append_assoc]
  rfl
theorem FeedI.last {w2 : World} {g : Nat} {v : Value} {L : List Nat} {b k : Nat} {T : List (List Nat)} {B : Nat} {tv : Value} {wr : World} (h : FeedI w2 g v L b k T B tv wr) (h0 : (L.drop k).length = 0 ∨ (jd (L.drop k)).1 = 2) : pz L = (T, B, L.drop k) := by
  obtain ⟨_, _, _, h4⟩ := h
  rw [h4]
  rcases h0 with h0 | h0
  · rw [List.length_eq_zero_iff.1 h0, pz_nil]
    simp
  · rw [pz_begun h0]
    simp
theorem FeedI.done {w0 w2 : World} {g : Nat} {v : Value} {L : List Nat} {b k : Nat} {T : List (List Nat)} {B : Nat} {tv : Value} {wr w4 : World} (h : FeedI w2 g v L b k T B tv wr) (hg : g < w2.heap.size) (h0 : (L.drop k).length = 0 ∨ (jd (L.drop k)).1 = 2) (hw : w0.grownBy w2 (some g))
    {v' : Value} (hv : OwnU w4 wr.heap.size v' (L.drop k)) (hu : Up wr w4) :
    OwnL (RU w0.heap.size) (w4.setCell ⟨g, 0, none⟩ v') w0.heap.size tv (pz L).1 ∧ Par (w4.setCell ⟨g, 0, none⟩ v') g (pz L).2.2 (b + (pz L).2.1) ∧ w0.grownBy (w4.setCell ⟨g, 0, none⟩ v') (some g) := by
  rw [h.last h0]
  obtain ⟨h1, h2, h3, _⟩ := h.up hu
  have hgs := h.1.size
  refine ⟨?_, ⟨v', ?_, ?_⟩, gb_trans (gb_trans hw h1) (gb_set _ _ _ _)⟩
  · exact ((h3.but (gb_set _ _ _ _) hg fun x l hx => OwnU.but hx (gb_set _ _ _ _) hg).imp fun x l hx => OwnU.mono hx hw.size).mono hw.size
  · rw [heap_setCell_same _ _ _ _ _ _ h2]
    rfl
  · exact (OwnU.but hv (gb_set _ _ _ _) (by omega)).mono (by omega)
end Go.Proofs.Ytmpikkhfeogdcaa
