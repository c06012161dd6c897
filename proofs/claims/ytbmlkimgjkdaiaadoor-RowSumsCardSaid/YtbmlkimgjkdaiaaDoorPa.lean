import Derived.OrdersHeld
import Derived.Below
import Derived.Laws.Rows
import Derived.Laws.Tables
import Derived.Test.YtbmlkimgjkdaiaaDoorProg
import Derived.WalkKit
import Derived.WalkSpells
import Derived.WalkLawsBesides
import Derived.Deep.QuietTactic
import Derived.BigQuiet
import Derived.ChangeKeysEq
import Derived.Shelf.Small.Bits
import Derived.Shelf.Strconv.Itoa0
import Derived.Shelf.Bits.Mul64
import Derived.Lib.ItoaNum
import Derived.Deep.RegionWith
namespace Go.Proofs.YtbmlkimgjkdaiaaDoor
def bp : Nat -> Nat
 | 0 => 1
 | k + 1 => bp k * 18446744073709551616
def sumL (f : Nat -> Nat) : Nat -> Nat
 | 0 => 0
 | k + 1 => sumL f k + f k * bp k
def limb (x i : Nat) : Nat := x / bp i % 18446744073709551616
def upd (f : Nat -> Nat) (k v : Nat) : Nat -> Nat := fun i => if i = k then v else f i
theorem bp_zero : bp 0 = 1 := rfl
theorem bp_succ (k : Nat) : bp (k + 1) = bp k * 18446744073709551616 := rfl
theorem bp_pos (k : Nat) : 0 < bp k := by
 induction k with
 | zero => decide
 | succ k ih => rw [bp_succ]; omega
theorem bp_add (i k : Nat) : bp (i + k) = bp i * bp k := by
 induction k with
 | zero => simp [bp_zero]
 | succ k ih => rw [<- Nat.add_assoc, bp_succ, bp_succ, ih, Nat.mul_assoc]
theorem bp_mono {i k : Nat} (h : i <= k) : bp i <= bp k := by
 obtain ⟨d, rfl⟩ := Nat.exists_eq_add_of_le h
 rw [bp_add]
 exact Nat.le_mul_of_pos_right _ (bp_pos d)
theorem sumL_zero (f : Nat -> Nat) : sumL f 0 = 0 := rfl
theorem sumL_succ (f : Nat -> Nat) (k : Nat) : sumL f (k + 1) = sumL f k + f k * bp k := rfl
theorem sumL_congr {f g : Nat -> Nat} {k : Nat} (h : ∀ i, i < k -> f i = g i) : sumL f k = sumL g k := by
 induction k with
 | zero => rfl
 | succ k ih => rw [sumL_succ, sumL_succ, ih fun i hi => h i (by omega), h k (by omega)]
theorem sumL_lt {f : Nat -> Nat} {k : Nat} (h : ∀ i, i < k -> f i < 18446744073709551616) : sumL f k < bp k := by
 induction k with
 | zero => simp [sumL_zero, bp_zero]
 | succ k ih =>
   have h1 := ih fun i hi => h i (by omega)
   have h2 := h k (by omega)
   rw [sumL_succ, bp_succ]
   have h3 : f k * bp k <= 18446744073709551615 * bp k := Nat.mul_le_mul_right _ (by omega)
   omega
theorem limb_lt (x i : Nat) : limb x i < 18446744073709551616 := Nat.mod_lt _ (by decide)
theorem sumL_limb (x k : Nat) : sumL (limb x) k = x % bp k := by
 induction k with
 | zero => rw [sumL_zero, bp_zero, Nat.mod_one]
 | succ k ih =>
   rw [sumL_succ, ih, bp_succ, limb, Nat.mod_mul, Nat.mul_comm (bp k)]
theorem limb_sumL {f : Nat -> Nat} {n i : Nat} (h : ∀ i, i < n -> f i < 18446744073709551616) (hi : i < n) : limb (sumL f n) i = f i := by
 induction n with
 | zero => omega
 | succ n ih =>
   have hn := sumL_lt (f := f) (k := n) fun i hi => h i (by omega)
   by_cases e : i = n
   ·subst e
    rw [limb, sumL_succ, Nat.add_mul_div_right _ _ (bp_pos i), Nat.div_eq_of_lt hn, Nat.zero_add, Nat.mod_eq_of_lt (h i hi)]
   ·have hin : i < n := by omega
    rw [<- ih (fun i hi => h i (by omega)) hin, sumL_succ]
    unfold limb
    obtain ⟨d, rfl⟩ := Nat.exists_eq_add_of_le (show i + 1 <= n by omega)
    rw [bp_add, bp_succ, show sumL f (i + 1 + d) + f (i + 1 + d) * (bp i * 18446744073709551616 * bp d) = sumL f (i + 1 + d) + (f (i + 1 + d) * bp d * 18446744073709551616) * bp i by grind, Nat.add_mul_div_right _ _ (bp_pos i), Nat.add_mul_mod_self_right]
theorem limb_of_small {x i k : Nat} (h : x < bp k) (hi : k <= i) : limb x i = 0 := by
 unfold limb
 rw [Nat.div_eq_of_lt (Nat.lt_of_lt_of_le h (bp_mono hi)), Nat.zero_mod]
theorem upd_same (f : Nat -> Nat) (k v : Nat) : upd f k v k = v := by simp [upd]
theorem upd_other (f : Nat -> Nat) (k v : Nat) {i : Nat} (h : i ≠ k) : upd f k v i = f i := by simp [upd, h]
theorem upd_lt {f : Nat -> Nat} {k v n m : Nat} (h : ∀ i, i < n -> f i < m) (hv : v < m) : ∀ i, i < n -> upd f k v i < m := by
 intro i hi
 unfold upd
 split
 ·exact hv
 ·exact h i hi
theorem sumL_upd_above (f : Nat -> Nat) {k v n : Nat} (h : n <= k) : sumL (upd f k v) n = sumL f n :=
 sumL_congr fun i hi => upd_other f k v (by omega)
theorem sumL_upd_succ (f : Nat -> Nat) (k v : Nat) : sumL (upd f k v) (k + 1) = sumL f k + v * bp k := by
 rw [sumL_succ, sumL_upd_above f (Nat.le_refl k), upd_same]
theorem add_step (s x y : Nat) (c bpk sx sy : Nat) (h : s + c * bpk = sx + sy) :
   s + (x + y + c) % 18446744073709551616 * bpk + (x + y + c) / 18446744073709551616 * (bpk * 18446744073709551616) = (sx + x * bpk) + (sy + y * bpk) := by
 have h1 := Nat.div_add_mod (x + y + c) 18446744073709551616
 generalize (x + y + c) / 18446744073709551616 = q at *
 generalize (x + y + c) % 18446744073709551616 = r at *
 have : (18446744073709551616 * q + r) * bpk = (x + y + c) * bpk := by rw [h1]
 grind
theorem mod_of_carry {s c b t : Nat} (hs : s < b) (h : s + c * b = t) : s = t % b := by
 rw [<- h, Nat.add_mul_mod_self_right, Nat.mod_eq_of_lt hs]
theorem sub_step (s x y r : Nat) (c c' bpk sx sy : Nat) (h : s + sy = sx + c * bpk) (hr : r + y + c = x + c' * 18446744073709551616) :
   (s + r * bpk) + (sy + y * bpk) = (sx + x * bpk) + c' * (bpk * 18446744073709551616) := by
 have : (r + y + c) * bpk = (x + c' * 18446744073709551616) * bpk := by rw [hr]
 grind
theorem sumL_lt_of {f g : Nat -> Nat} {n i : Nat} (hf : ∀ j, j < n -> f j < 18446744073709551616) (hi : i < n) (ht : ∀ j, i < j -> j < n -> f j = g j) (h : f i < g i) : sumL f n < sumL g n := by
 induction n with
 | zero => omega
 | succ n ih =>
   rw [sumL_succ, sumL_succ]
   by_cases e : i = n
   ·subst e
    have h1 := sumL_lt (f := f) (k := i) fun j hj => hf j (by omega)
    have h2 : (f i + 1) * bp i <= g i * bp i := Nat.mul_le_mul_right _ h
    rw [Nat.add_mul] at h2
    omega
   ·have := ih (fun j hj => hf j (by omega)) (by omega) fun j h1 h2 => ht j h1 (by omega)
    rw [ht n (by omega) (by omega)]
    omega
def lenL (f : Nat -> Nat) : Nat -> Nat
 | 0 => 0
 | k + 1 => if f k = 0 then lenL f k else k + 1
theorem lenL_le (f : Nat -> Nat) (n : Nat) : lenL f n <= n := by
 induction n with
 | zero => exact Nat.le_refl _
 | succ n ih => unfold lenL; split <;> omega
theorem lenL_succ (f : Nat -> Nat) (n : Nat) : lenL f (n + 1) = if f n = 0 then lenL f n else n + 1 := rfl
theorem lenL_top (f : Nat -> Nat) (n : Nat) (h : 0 < lenL f n) : f (lenL f n - 1) ≠ 0 := by
 induction n with
 | zero => simp [lenL] at h
 | succ n ih =>
   rw [lenL_succ] at *
   by_cases h0 : f n = 0
   ·rw [if_pos h0] at *; exact ih h
   ·rw [if_neg h0] at *; exact h0
theorem lenL_sum (f : Nat -> Nat) (n : Nat) : sumL f (lenL f n) = sumL f n := by
 induction n with
 | zero => rfl
 | succ n ih =>
   unfold lenL
   split
   ·rename_i h0; rw [ih, sumL_succ, h0]; omega
   ·rfl
theorem lenL_of (f : Nat -> Nat) {n k : Nat} (hk : k <= n) (h0 : ∀ i, k <= i -> i < n -> f i = 0) (ht : k = 0 \/ f (k - 1) ≠ 0) : lenL f n = k := by
 induction n with
 | zero => unfold lenL; omega
 | succ n ih =>
   unfold lenL
   by_cases e : k = n + 1
   ·subst e
    rw [if_neg]
    rcases ht with ht | ht
    ·omega
    ·exact ht
   ·rw [if_pos (h0 n (by omega) (by omega))]
    exact ih (by omega) fun i h1 h2 => h0 i h1 (by omega)
theorem bp_le_of_len (f : Nat -> Nat) (n : Nat) (h : 0 < lenL f n) : bp (lenL f n - 1) <= sumL f n := by
 rw [<- lenL_sum]
 have ht := lenL_top f n h
 generalize lenL f n = k at *
 obtain ⟨j, rfl⟩ : ∃ j, k = j + 1 := ⟨k - 1, by omega⟩
 rw [sumL_succ]
 simp only [Nat.add_sub_cancel] at *
 have : 1 * bp j <= f j * bp j := Nat.mul_le_mul_right _ (by omega)
 omega
theorem sub_final {s x y c b : Nat} (h : s + y = x + c * b) (hs : s < b) (_ : x < b) (hy : y < b) : s = (x + b - y) % b := by
 have hc : c = 0 \/ c = 1 := by
  rcases Nat.lt_or_ge c 2 with h1 | h1
  ·omega
  ·have : 2 * b <= c * b := Nat.mul_le_mul_right _ h1
   omega
 rcases hc with rfl | rfl
 ·rw [show x + b - y = s + b from by omega, Nat.add_mod_right, Nat.mod_eq_of_lt hs]
 ·rw [show x + b - y = s from by omega, Nat.mod_eq_of_lt hs]
def ordZ (x y : Nat) : Int := if x < y then -1 else if y < x then 1 else 0
def hb : Nat := bp 15 * 9223372036854775808
theorem bp16 : bp 16 = 2 * hb := by unfold hb; rw [bp_succ 15]; omega
theorem hb_pos : 0 < hb := by have := bp_pos 16; rw [bp16] at this; omega
theorem top_iff {x : Nat} (hx : x < bp 16) : 9223372036854775808 <= limb x 15 ↔ hb <= x := by
 unfold limb hb
 have h1 : x / bp 15 < 18446744073709551616 := by
  rw [Nat.div_lt_iff_lt_mul (bp_pos 15), Nat.mul_comm]
  exact hx
 rw [Nat.mod_eq_of_lt h1, Nat.le_div_iff_mul_le (bp_pos 15), Nat.mul_comm]
def InR (z : Int) : Prop := -(hb : Int) <= z /\ z < hb
instance (z : Int) : Decidable (InR z) := by unfold InR; infer_instance
def enc (z : Int) : Nat := (z % (bp 16 : Int)).toNat
theorem enc_lt (z : Int) : enc z < bp 16 := by
 unfold enc
 have h := bp_pos 16
 have := Int.emod_lt_of_pos z (show (0 : Int) < (bp 16 : Int) by omega)
 have := Int.emod_nonneg z (show ((bp 16 : Nat) : Int) ≠ 0 by omega)
 omega
theorem enc_nn {z : Int} (h : InR z) (h0 : 0 <= z) : enc z = z.natAbs /\ enc z < hb := by
 obtain ⟨_, h2⟩ := h
 have h3 := bp16
 unfold enc
 rw [Int.emod_eq_of_lt h0 (by omega)]
 omega
theorem enc_neg {z : Int} (h : InR z) (h0 : z < 0) : enc z = bp 16 - z.natAbs /\ hb <= enc z := by
 obtain ⟨h1, h2⟩ := h
 have h3 := bp16
 have h4 : z % (bp 16 : Int) = z + bp 16 := by
  rw [<- Int.add_emod_right, Int.emod_eq_of_lt (by omega) (by omega)]
 unfold enc
 rw [h4]
 omega
theorem enc_inj {a b : Int} (ha : InR a) (hb' : InR b) (h : enc a = enc b) : a = b := by
 have h3 := bp16
 have h1 : (a % (bp 16 : Int)).toNat = (b % (bp 16 : Int)).toNat := h
 by_cases a0 : 0 <= a
 ·have := enc_nn ha a0
  by_cases b0 : 0 <= b
  ·have := enc_nn hb' b0; omega
  ·have := enc_neg hb' (by omega); omega
 ·have := enc_neg ha (by omega)
  by_cases b0 : 0 <= b
  ·have := enc_nn hb' b0; omega
  ·have := enc_neg hb' (by omega)
   obtain ⟨_, _⟩ := ha; obtain ⟨_, _⟩ := hb'; omega
theorem enc_neg_iff {z : Int} (h : InR z) : hb <= enc z ↔ z < 0 := by
 by_cases h0 : 0 <= z
 ·have := enc_nn h h0; omega
 ·have := enc_neg h (by omega); omega
theorem enc_zero : enc 0 = 0 := by unfold enc; simp
theorem enc_add (a b : Int) : (enc a + enc b) % bp 16 = enc (a + b) := by
 have h := bp_pos 16
 have ha := Int.emod_nonneg a (show ((bp 16 : Nat) : Int) ≠ 0 by omega)
 have hb' := Int.emod_nonneg b (show ((bp 16 : Nat) : Int) ≠ 0 by omega)
 unfold enc
 rw [Int.add_emod a b]
 generalize a % (bp 16 : Int) = u at *
 generalize b % (bp 16 : Int) = v at *
 obtain ⟨u, rfl⟩ := Int.eq_ofNat_of_zero_le ha
 obtain ⟨v, rfl⟩ := Int.eq_ofNat_of_zero_le hb'
 simp only [Int.toNat_natCast]
 rw [<- Int.natCast_add, <- Int.natCast_emod, Int.toNat_natCast]
theorem enc_sub (a b : Int) : (enc a + bp 16 - enc b) % bp 16 = enc (a - b) := by
 have h := bp_pos 16
 have hlb := enc_lt b
 have ha := Int.emod_nonneg a (show ((bp 16 : Nat) : Int) ≠ 0 by omega)
 have hb' := Int.emod_nonneg b (show ((bp 16 : Nat) : Int) ≠ 0 by omega)
 unfold enc at *
 rw [Int.sub_emod a b]
 generalize a % (bp 16 : Int) = u at *
 generalize b % (bp 16 : Int) = v at *
 obtain ⟨u, rfl⟩ := Int.eq_ofNat_of_zero_le ha
 obtain ⟨v, rfl⟩ := Int.eq_ofNat_of_zero_le hb'
 simp only [Int.toNat_natCast] at *
 rw [<- Int.add_emod_right, show (u : Int) - (v : Int) + (bp 16 : Int) = ((u + bp 16 - v : Nat) : Int) by omega, <- Int.natCast_emod, Int.toNat_natCast]
theorem enc_natAbs {z : Int} (h : InR z) : z.natAbs <= hb /\ z.natAbs < bp 16 := by
 have h3 := bp16; have := hb_pos; obtain ⟨_, _⟩ := h; omega
theorem InR.out {z : Int} (h : InR z) : -(hb : Int) <= z /\ z < hb := h
theorem InR.mk' {z : Int} (h : -(hb : Int) <= z /\ z < hb) : InR z := h
attribute [irreducible] bp hb InR enc limb sumL
end Go.Proofs.YtbmlkimgjkdaiaaDoor
namespace Go.Proofs.YtbmlkimgjkdaiaaDoor
open Go Go.RowKit
theorem oI {α : Type} {a b : α} (h : some a = some b) : a = b := Option.some.inj h
set_option maxRecDepth 100000
theorem pu1 {α : Type} (l : List α) (i : Nat) (a : α) : l.toArray.setIfInBounds i a = (l.set i a).toArray := List.setIfInBounds_toArray l i a
theorem pu2 {α : Type} (a b : α) (l : List α) : (a :: l).set 0 b = b :: l := List.set_cons_zero
theorem pu3 {α : Type} (a b : α) (l : List α) (n : Nat) : (a :: l).set (n + 1) b = a :: l.set n b := List.set_cons_succ
def Up (w w' : World) : Prop := Below w.heap.size w w'
theorem Up.refl (w : World) : Up w w := Below.refl _ _
theorem Up.trans {a b c : World} (h : Up a b) (k : Up b c) : Up a c := Below.trans h (Below.mono k h.size)
theorem Up.drew (w : World) : Up w w.drew := (Below.refl _ _).drew
theorem Up.alloc (w : World) (o : Obj) : Up w (w.alloc o) := (Below.refl _ _).alloc (Nat.le_refl _) _
theorem Up.row {w w' : World} (h : Up w w') {b : Nat} {o : Obj} (hb : w.heap[b]? = some o) : w'.heap[b]? = some o := by
 rw [h.block b (Array.getElem?_eq_some_iff.1 hb).1]; exact hb
theorem Up.cell {w w' : World} (h : Up w w') {p : Addr} {v : Value} (hc : w.cell? p = some v) : w'.cell? p = some v := by
 rw [Below.cell h (World.block_lt_of_cell? w p hc)]; exact hc
theorem Up.below {B : Nat} {a w w' : World} (h : Up w w') (hb : Below B a w) (hB : B <= w.heap.size) : Below B a w' := Below.trans hb (Below.mono h hB)
section
variable {P : Program} {ops : Array Oper} {Q : Exit -> Act -> World -> Prop} {md : Region.Mode} {S : World -> Prop} {req : Nat -> Bool}
def LeavesU (P : Program) (v : Value) (w : World) : Result Next -> Prop
 | .ok (.value u) w' => u = v /\ Up w w'
 | .ok (.enter f args) w' => Up w w' /\ Calls P f args w' fun e w'' => e = .returned v /\ Up w' w''
 | _ => False
def YieldsU (P : Program) (ops : Array Oper) (S : World -> Prop) (o : Oper) (v : Value) (a : Act) : Prop :=
 (Region.wanted o (yielded ops a.tmps) = true /\ ∀ w, S w -> LeavesU P v w ((execOp a.eval o).run P w)) \/
 (Region.wanted o (yielded ops a.tmps) = false /\ v = undef)
theorem YieldsU.of_same {o : Oper} {v : Value} {a a' : Act} (hy : YieldsU P ops S o v a) (he : execOp a'.eval o = execOp a.eval o)
   (hw : Region.wanted o (yielded ops a'.tmps) = Region.wanted o (yielded ops a.tmps)) : YieldsU P ops S o v a' := by
 unfold YieldsU at *
 rw [he, hw]
 exact hy
theorem YieldsU.wpOp {i : Nat} {o : Oper} {v : Value} {a : Act} (hi : ops[i]? = some o) (hy : YieldsU P ops S o v a)
   {K : Act -> World -> Prop} {w : World} (hS : S w) (h : ∀ w', Up w w' -> K (a.put o.dst v) w') : wpOp P ops Q i K a w := by
 unfold Go.wpOp
 simp only [hi]
 rcases hy with ⟨hw, hv⟩ | ⟨hw, rfl⟩
 ·simp only [hw, if_true]
  refine .inl ?_
  have h1 := hv w hS
  unfold Oper.wp
  generalize (execOp a.eval o).run P w = r at *
  cases r with
  | halt x w' => exact h1.elim
  | ok n w' =>
    cases n with
    | value u => obtain ⟨rfl, hu⟩ := h1; exact h _ hu
    | enter f args =>
      obtain ⟨hu, hc⟩ := h1
      refine Calls.mono hc fun e w'' he => ?_
      obtain ⟨rfl, hu'⟩ := he
      exact h _ (hu.trans hu')
    | _ => exact h1.elim
 ·simp only [hw, Bool.false_eq_true, if_false]; exact h _ (Up.refl _)
theorem wpOp_putU {j : Nat} {oi oj : Oper} {v : Value} (hj : ops[j]? = some oj) (hap : oi.apart ops oj = true)
   (hsi : ∀ cs b, oi.op ≠ .select cs b) (hsj : ∀ cs b, oj.op ≠ .select cs b)
   (hQ : ∀ c a w, Q (.panic c) (a.put oi.dst v) w -> Q (.panic c) a w) {K : Act -> World -> Prop} {a : Act} {w : World}
   (hy : YieldsU P ops S oi v a) (h : wpOp P ops Q j K (a.put oi.dst v) w) :
   wpOp P ops Q j (fun a' w' => YieldsU P ops S oi v a' /\ K (a'.put oi.dst v) w') a w := by
 obtain ⟨h1, h2, h3⟩ := Oper.apart_spec hap
 have keep : ∀ (a : Act), YieldsU P ops S oi v a -> ∀ u, YieldsU P ops S oi v (a.put oj.dst u) := fun a hy u =>
  hy.of_same (execOp_put oi hsi a oj.dst u h3) (wanted_put oi a oj.dst u h3)
 have keepD : ∀ d, YieldsU P ops S oi v { a with defers := d :: a.defers } := fun d => hy.of_same rfl rfl
 unfold wpOp at *
 simp only [hj] at *
 rw [wanted_put oj a oi.dst v h1] at h
 split
 ·rename_i hw
  simp only [hw, if_true] at h
  rcases h with h | ⟨hasks, hlets⟩
  case inr => exact .inr ⟨by unfold Oper.asks at *; rw [execOp_put oj hsj a oi.dst v h1] at hasks; exact hasks, hlets⟩
  refine .inl ?_
  unfold Oper.wp at *
  rw [execOp_put oj hsj a oi.dst v h1] at h
  generalize (execOp a.eval oj).run P w = r at *
  cases r with
  | ok n w' =>
    cases n <;> simp only [Oper.upon] at h ⊢
    case value u => exact ⟨keep a hy u, by rw [<- Act.put_comm a v u h2]; exact h⟩
    case skip => exact ⟨keep a hy _, by rw [<- Act.put_comm a v undef h2]; exact h⟩
    case defer d =>
     refine ⟨keep _ (keepD d) _, ?_⟩
     rw [<- Act.put_comm _ v undef h2, <- Act.put_defers]
     exact h
    case enter f args =>
     refine Calls.mono h fun e w'' he => ?_
     cases e with
     | returned u => exact ⟨keep a hy u, by rw [<- Act.put_comm a v u h2]; exact he⟩
     | panicked c => exact hQ _ _ _ he
     | outgrown => exact he
    case row row args => exact Rows.mono h fun u w'' he => ⟨keep a hy u, by rw [<- Act.put_comm a v u h2]; exact he⟩
  | halt x w' =>
    cases x <;> simp only [Oper.upon] at h ⊢
    case panic u => exact hQ _ _ _ h
 ·rename_i hw
  simp only [hw] at h
  exact ⟨keep a hy _, by rw [<- Act.put_comm a v undef h2]; exact h⟩
def wpAnyU (P : Program) (md : Region.Mode) (ops : Array Oper) (Q : Exit -> Act -> World -> Prop) (S : World -> Prop) (req : Nat -> Bool) : Nat -> Array Bool -> Act -> World -> Prop
 | 0, listed, a, w => Region.ready md ops listed = [] /\ ∀ w', Up w w' -> Q .normal a w'
 | fuel + 1, listed, a, w => ∀ w', Up w w' ->
   (Region.ready md ops listed = [] -> Q .normal a w') /\
   ∀ i ∈ Region.ready md ops listed, wpOp P ops Q i (fun a' w'' => (req i = true -> S w' -> S w'') /\ wpAnyU P md ops Q S req fuel (listed.setIfInBounds i true) a' w'') a w'
theorem wpAnyU_up : ∀ {fuel : Nat} {listed : Array Bool} {a : Act} {w w' : World}, Up w w' -> wpAnyU P md ops Q S req fuel listed a w -> wpAnyU P md ops Q S req fuel listed a w'
 | 0, _, _, _, _, hu, h => ⟨h.1, fun w'' hw => h.2 w'' (hu.trans hw)⟩
 | _ + 1, _, _, _, _, hu, h => fun w'' hw => h w'' (hu.trans hw)
theorem wpAny_of_up : ∀ (fuel : Nat) (listed : Array Bool) (a : Act) (w : World), wpAnyU P md ops Q S req fuel listed a w -> wpAny P md ops Q fuel listed a w
 | 0, _, _, w, h => ⟨h.1, h.2 w (Up.refl w)⟩
 | fuel + 1, _, _, w, h => ⟨(h w (Up.refl w)).1, fun i hi => wpOp_mono (fun a' w' h' => wpAny_of_up fuel _ a' w' h'.2) ((h w (Up.refl w)).2 i hi)⟩
def waitsU (md : Region.Mode) (ops : Array Oper) (i : Nat) : Nat -> Nat -> Bool
 | 0, _ => false
 | fuel + 1, j => ((ops[j]?).map fun o => o.after.any fun e => Region.binds md e && (e.on == i || waitsU md ops i fuel e.on)).getD false
def closedU (md : Region.Mode) (ops : Array Oper) (listed : Array Bool) : Prop :=
 ∀ j oj, ops[j]? = some oj -> listed.getD j false = true -> ∀ e ∈ oj.after, Region.binds md e = true -> listed.getD e.on false = true
def closedB (md : Region.Mode) (ops : Array Oper) (listed : Array Bool) : Bool :=
 (List.range ops.size).all fun j => !listed.getD j false || ((ops[j]?).map fun o => o.after.all fun e => !Region.binds md e || listed.getD e.on false).getD true
theorem closedB_spec {listed : Array Bool} (h : closedB md ops listed = true) : closedU md ops listed := by
 intro j oj hj hl e he hb
 have hlt : j < ops.size := (Array.getElem?_eq_some_iff.1 hj).1
 have h1 := List.all_eq_true.1 h j (List.mem_range.2 hlt)
 rw [hl, hj] at h1
 simp only [Bool.not_true, Bool.false_or, Option.map_some, Option.getD_some, Array.all_eq_true_iff_forall_mem, Bool.or_eq_true, Bool.not_eq_true'] at h1
 exact (h1 e he).resolve_left (by simp [hb])
theorem closedU_set {listed : Array Bool} {j : Nat} (h : closedU md ops listed) (hj : j ∈ Region.ready md ops listed) : closedU md ops (listed.setIfInBounds j true) := by
 obtain ⟨_, o, ho, hall⟩ := mem_ready.1 hj
 intro k ok hk hl e he hb
 by_cases hjk : j = k
 ·subst hjk
  have : ok = o := Option.some.inj (hk.symm.trans ho)
  subst this
  exact getD_set_true (hall e he hb)
 ·rw [getD_set_ne false hjk] at hl
  exact getD_set_true (h k ok hk hl e he hb)
theorem waitsU_spec {listed : Array Bool} {i : Nat} (hc : closedU md ops listed) : ∀ (fuel j : Nat) (o : Oper), ops[j]? = some o -> (∀ e ∈ o.after, Region.binds md e = true -> listed.getD e.on false = true) ->
   waitsU md ops i fuel j = true -> listed.getD i false = true
 | 0, _, _, _, _, h => by simp [waitsU] at h
 | fuel + 1, j, o, ho, hall, h => by
   simp only [waitsU, ho, Option.map_some, Option.getD_some, Array.any_eq_true', Bool.and_eq_true, Bool.or_eq_true, beq_iff_eq] at h
   obtain ⟨e, he, hb, h1⟩ := h
   have hl := hall e he hb
   rcases h1 with h1 | h1
   ·rw [<- h1]; exact hl
   ·cases ho' : ops[e.on]? with
    | none =>
      cases fuel with
      | zero => simp [waitsU] at h1
      | succ f => simp [waitsU, ho'] at h1
    | some o' => exact waitsU_spec hc fuel e.on o' ho' (fun e' he' hb' => hc e.on o' ho' hl e' he' hb') h1
theorem wpAnyU_first {i : Nat} {oi : Oper} {v : Value} (hi : ops[i]? = some oi) (hsel : ∀ (j : Nat) (o : Oper) cs b, ops[j]? = some o -> o.op ≠ .select cs b)
   (hQ : ∀ c a w, Q (.panic c) (a.put oi.dst v) w -> Q (.panic c) a w) (hSup : ∀ w w', S w -> Up w w' -> S w') {T : World -> Prop} (hTup : ∀ w w', T w -> Up w w' -> T w')
   (hT : (∀ w, T w) \/ ((∀ w, T w -> S w) /\ (∀ w, S w -> T w) /\ ∀ j oj, ops[j]? = some oj -> req j = false -> ∃ f, waitsU md ops i f j = true)) :
   ∀ (fuel : Nat) (listed : Array Bool) (a : Act) (w : World), closedU md ops listed ->
     (∀ j oj, ops[j]? = some oj -> j ≠ i -> listed.getD j true = false -> (∀ e ∈ oj.after, Region.binds md e = true -> e.on ≠ i) -> oi.apart ops oj = true) ->
     i ∈ Region.ready md ops listed -> YieldsU P ops T oi v a -> T w ->
     wpAnyU P md ops Q S req fuel (listed.setIfInBounds i true) (a.put oi.dst v) w -> wpAnyU P md ops Q S req (fuel + 1) listed a w := by
 intro fuel
 induction fuel with
 | zero =>
   intro listed a w hcl _ hr hy hS H w' hw'
   refine ⟨fun h => (by rw [h] at hr; cases hr), fun j hj => ?_⟩
   by_cases hji : j = i
   ·subst hji; exact hy.wpOp hi (hTup _ _ hS hw') fun w'' hu => ⟨fun _ h => hSup _ _ h hu, wpAnyU_up (hw'.trans hu) H⟩
   ·have := ready_mono hj hji
    rw [H.1] at this
    cases this
 | succ fuel ih =>
   intro listed a w hcl hfree hr hy hS H w' hw'
   refine ⟨fun h => (by rw [h] at hr; cases hr), fun j hj => ?_⟩
   by_cases hji : j = i
   ·subst hji; exact hy.wpOp hi (hTup _ _ hS hw') fun w'' hu => ⟨fun _ h => hSup _ _ h hu, wpAnyU_up (hw'.trans hu) H⟩
   ·have h1 := (H w' hw').2 j (ready_mono hj hji)
    obtain ⟨hjun, oj, hoj, hall⟩ := mem_ready.1 hj
    have h0 := (mem_ready.1 hr).1
    have hiun : listed.getD i false = true -> False := fun h1 => by
     rcases Nat.lt_or_ge i listed.size with h' | h'
     ·simp [h'] at h0 h1; rw [h0] at h1; cases h1
     ·simp [Array.getElem?_eq_none h'] at h1
    have hnot : ∀ e ∈ oj.after, Region.binds md e = true -> e.on ≠ i := fun e he hb heq => hiun (heq ▸ hall e he hb)
    have hnext : ∀ w'', (req j = true -> S w' -> S w'') -> T w'' := fun w'' hk => by
     rcases hT with hT | ⟨h1, h2, h3⟩
     ·exact hT _
     ·refine h2 _ (hk ?_ (h1 _ (hTup _ _ hS hw')))
      cases hq : req j with
      | true => rfl
      | false =>
        obtain ⟨f, hf⟩ := h3 j oj hoj hq
        exact (hiun (waitsU_spec hcl f j oj hoj hall hf)).elim
    have h2 := wpOp_putU hoj (hfree j oj hoj hji hjun hnot) (fun cs b => hsel i oi cs b hi) (fun cs b => hsel j oj cs b hoj) hQ hy h1
    have hfree' : ∀ k ok, ops[k]? = some ok -> k ≠ i -> (listed.setIfInBounds j true).getD k true = false ->
       (∀ e ∈ ok.after, Region.binds md e = true -> e.on ≠ i) -> oi.apart ops ok = true := fun k ok hk hki hun hno => by
     refine hfree k ok hk hki ?_ hno
     by_cases hjk : j = k
     ·subst hjk; exact hjun
     ·rw [getD_set_ne true hjk] at hun; exact hun
    refine wpOp_mono (fun a' w'' h3 => ⟨h3.2.1, ih (listed.setIfInBounds j true) a' w'' (closedU_set hcl hj) hfree' (ready_mono hr (Ne.symm hji)) h3.1 (hnext _ h3.2.1) ?_⟩) h2
    rw [Array.setIfInBounds_comm _ _ hji]
    exact h3.2.2
def reqB (md : Region.Mode) (ops : Array Oper) (req : Nat -> Bool) (i : Nat) : Bool := (List.range ops.size).all fun j => req j || waitsU md ops i ops.size j
theorem reqB_spec {i : Nat} (h : reqB md ops req i = true) : ∀ j oj, ops[j]? = some oj -> req j = false -> ∃ f, waitsU md ops i f j = true := fun j oj hj hq => by
 have h1 := List.all_eq_true.1 h j (List.mem_range.2 (Array.getElem?_eq_some_iff.1 hj).1)
 rw [hq, Bool.false_or] at h1
 exact ⟨_, h1⟩
def takeB (md : Region.Mode) (ops : Array Oper) (req : Nat -> Bool) (listed : Array Bool) (i : Nat) : Bool :=
 Region.noSelect ops && Region.free md ops listed i && (Region.ready md ops listed).contains i && closedB md ops listed && reqB md ops req i
theorem wpAnyU_take {i : Nat} {oi : Oper} {d : Option Tmp} {v : Value} {fuel : Nat} {listed : Array Bool} {a : Act} {w : World} (hi : ops[i]? = some oi) (hd : oi.dst = d) (ht : takeB md ops req listed i = true)
   (hQ : ∀ c a w, Q (.panic c) (a.put d v) w -> Q (.panic c) a w) (hSup : ∀ w w', S w -> Up w w' -> S w') (hS : S w) (hy : YieldsU P ops S oi v a)
   (h : wpAnyU P md ops Q S req fuel (listed.setIfInBounds i true) (a.put d v) w) : wpAnyU P md ops Q S req (fuel + 1) listed a w := by
 subst hd
 simp only [takeB, Bool.and_eq_true] at ht
 obtain ⟨⟨⟨⟨h1, h2⟩, h3⟩, h4⟩, h5⟩ := ht
 exact wpAnyU_first hi (Region.noSelect_spec h1) hQ hSup hSup (.inr ⟨fun _ h => h, fun _ h => h, reqB_spec h5⟩) fuel listed a w (closedB_spec h4) (Region.free_spec hi h2) (by simpa using h3) hy hS h
def pureB (md : Region.Mode) (ops : Array Oper) (listed : Array Bool) (i : Nat) : Bool :=
 Region.noSelect ops && Region.free md ops listed i && (Region.ready md ops listed).contains i && closedB md ops listed
theorem wpAnyU_pure {i : Nat} {oi : Oper} {d : Option Tmp} {v : Value} {fuel : Nat} {listed : Array Bool} {a : Act} {w : World} (hi : ops[i]? = some oi) (hd : oi.dst = d) (ht : pureB md ops listed i = true)
   (hQ : ∀ c a w, Q (.panic c) (a.put d v) w -> Q (.panic c) a w) (hSup : ∀ w w', S w -> Up w w' -> S w') (hy : YieldsU P ops (fun _ => True) oi v a)
   (h : wpAnyU P md ops Q S req fuel (listed.setIfInBounds i true) (a.put d v) w) : wpAnyU P md ops Q S req (fuel + 1) listed a w := by
 subst hd
 simp only [pureB, Bool.and_eq_true] at ht
 obtain ⟨⟨⟨h1, h2⟩, h3⟩, h4⟩ := ht
 exact wpAnyU_first hi (Region.noSelect_spec h1) hQ hSup (T := fun _ => True) (fun _ _ h _ => h) (.inl fun _ => trivial) fuel listed a w (closedB_spec h4) (Region.free_spec hi h2) (by simpa using h3) hy trivial h
theorem wpAnyU_all {rs : List Nat} {fuel : Nat} {listed : Array Bool} {a : Act} {w : World} (hr : Region.ready md ops listed = rs) (hne : rs ≠ [])
   (h : ∀ w', Up w w' -> ∀ i ∈ rs, wpOp P ops Q i (fun a' w'' => (req i = true -> S w' -> S w'') /\ wpAnyU P md ops Q S req fuel (listed.setIfInBounds i true) a' w'') a w') : wpAnyU P md ops Q S req (fuel + 1) listed a w :=
 fun w' hw' => ⟨fun h0 => absurd (hr ▸ h0) hne, hr ▸ h w' hw'⟩
theorem wpAnyU_one {i : Nat} {o : Oper} {fuel : Nat} {listed : Array Bool} {a : Act} {w : World} (hi : ops[i]? = some o) (hr : Region.ready md ops listed = [i]) (hw : Region.wanted o (yielded ops a.tmps) = true)
   (h : ∀ w', Up w w' -> Oper.wp P o a w' (fun a' w'' => (req i = true -> S w' -> S w'') /\ wpAnyU P md ops Q S req fuel (listed.setIfInBounds i true) a' w'') Q) : wpAnyU P md ops Q S req (fuel + 1) listed a w :=
 wpAnyU_all hr (by simp) fun w' hw' j hj => by
  obtain rfl : j = i := by simpa using hj
  unfold wpOp
  simp only [hi, hw, if_true]
  exact .inl (h w' hw')
theorem wpAnyU_done {listed : Array Bool} {a : Act} {w : World} (hr : Region.ready md ops listed = []) (h : ∀ w', Up w w' -> Q .normal a w') : ∀ fuel, wpAnyU P md ops Q S req fuel listed a w
 | 0 => ⟨hr, h⟩
 | _ + 1 => fun w' hw' => ⟨fun _ => h w' hw', by rw [hr]; simp⟩
theorem wp_region_up {id : Nat} {a : Act} {w : World} (hm : P.follows .mixedOrders = true)
   (h : wpAnyU P .any ops Q S req ops.size (Array.replicate ops.size false) a w.drew) : (Code.region id ops true).wp P Q a w :=
 wp_region_any hm (wpAny_of_up _ _ _ _ h)
theorem wp_region_upS {id : Nat} {a : Act} {w : World} (hm : P.follows .mixedOrders = true) (hSup : ∀ w w', S w -> Up w w' -> S w') (hS : S w)
   (h : ∀ w', S w' -> wpAnyU P .any ops Q S req ops.size (Array.replicate ops.size false) a w') : (Code.region id ops true).wp P Q a w :=
 wp_region_up hm (h _ (hSup _ _ hS (Up.drew w)))
theorem wp_region_upH {id : Nat} {a : Act} {w : World} (hm : P.follows .mixedOrders = true) (hSup : ∀ w w', S w -> Up w w' -> S w') (hS : S w)
   (h : ∀ w', S w' -> Hid (∀ w w', S w -> Up w w' -> S w') -> wpAnyU P .any ops Q S req ops.size (Array.replicate ops.size false) a w') : (Code.region id ops true).wp P Q a w :=
 wp_region_upS hm hSup hS fun w' h1 => h w' h1 hSup
theorem below_up {w w1 w2 : World} (h : Below w.heap.size w w1) (hu : Up w1 w2) : Below w.heap.size w w2 := Up.trans h hu
end
end Go.Proofs.YtbmlkimgjkdaiaaDoor
namespace Go.Proofs.YtbmlkimgjkdaiaaDoor
open Go Go.RowKit
set_option maxRecDepth 100000
def cells (n : Nat) (f : Nat -> Nat) : Array Value := Array.ofFn (n := n) fun i => .int .u64 (f i.val : Nat)
theorem cells_size (n : Nat) (f : Nat -> Nat) : (cells n f).size = n := by simp [cells]
theorem cells_get (n : Nat) (f : Nat -> Nat) (i : Nat) (h : i < n) : (cells n f)[i]? = some (.int .u64 (f i : Nat)) := by simp [cells, h]
theorem cells_congr {n : Nat} {f g : Nat -> Nat} (h : ∀ i, i < n -> f i = g i) : cells n f = cells n g := by
 unfold cells
 congr 1
 funext i
 rw [h i.val i.isLt]
theorem cells_set (n : Nat) (f : Nat -> Nat) (k v : Nat) : (cells n f).setIfInBounds k (.int .u64 (v : Nat)) = cells n (upd f k v) := by
 apply Array.ext_getElem?
 intro i
 rw [Array.getElem?_setIfInBounds, cells_size]
 by_cases hi : i < n
 ·rw [cells_get n f i hi, cells_get n (upd f k v) i hi]
  by_cases e : k = i
  ·subst e; rw [if_pos rfl, if_pos hi, upd_same]
  ·rw [if_neg e, upd_other f k v (fun h => e h.symm)]
 ·rw [Array.getElem?_eq_none (by rw [cells_size]; omega), Array.getElem?_eq_none (by rw [cells_size]; omega)]
  split
  ·rw [if_neg (by omega)]
  ·rfl
theorem cells_one (n : Nat) (f : Nat -> Nat) : (cells n f).all (·.oneCell') = true := by
 rw [Array.all_eq_true_iff_forall_mem]
 intro v hv
 simp only [cells, Array.mem_ofFn] at hv
 obtain ⟨i, rfl⟩ := hv
 rfl
def wideV (x : Nat) : Value := .agg (cells 16 (limb x))
theorem wide_of {f : Nat -> Nat} (h : ∀ i, i < 16 -> f i < 18446744073709551616) : Value.agg (cells 16 f) = wideV (sumL f 16) := by
 unfold wideV
 rw [cells_congr fun i hi => (limb_sumL h hi).symm]
theorem hid {p : Prop} (h : p) : Hid p := h
def Blk (w : World) (b : Nat) (t : TypeId) (C : Array Value) : Prop := w.heap[b]? = some (.cells C t (0, 0))
theorem Blk.lt {w : World} {b : Nat} {t : TypeId} {C : Array Value} (h : Blk w b t C) : b < w.heap.size := (Array.getElem?_eq_some_iff.1 h).1
theorem Blk.cell {w : World} {b : Nat} {t : TypeId} {C : Array Value} (h : Blk w b t C) (i : Nat) {v : Value} (hv : C[i]? = some v) : w.cell? ⟨b, i, none⟩ = some v := by
 rw [cell_of_row _ _ _ _ _ _ h, hv]
theorem Blk.frozen {w : World} {b : Nat} {t : TypeId} {C : Array Value} (h : Blk w b t C) (i : Nat) : w.frozen? ⟨b, i, none⟩ = false := frozen_of_row _ _ _ _ _ h
theorem Blk.up {w w' : World} {b : Nat} {t : TypeId} {C : Array Value} (h : Blk w b t C) (hu : Up w w') : Blk w' b t C := hu.row h
theorem Blk.new {w : World} {b : Nat} (t : TypeId) (C : Array Value) (h : b = w.heap.size) : Blk (w.alloc (.cells C t)) b t C := by
 subst h; exact heap_alloc_new _ _
theorem Blk.set {w : World} {b : Nat} {t : TypeId} {C : Array Value} (h : Blk w b t C) (i : Nat) (v : Value) : Blk (w.setCell ⟨b, i, none⟩ v) b t (C.setIfInBounds i v) := by
 exact heap_setCell_same _ _ _ _ _ _ h
theorem Blk.other {w : World} {b : Nat} {t : TypeId} {C : Array Value} (h : Blk w b t C) (a : Addr) (v : Value) (hb : b ≠ a.block) : Blk (w.setCell a v) b t C := by
 unfold Blk; rw [heap_setCell_other _ _ _ _ hb]; exact h
theorem Blk.setRow {w : World} {b : Nat} {t : TypeId} {C : Array Value} (h : Blk w b t C) (D : Array Value) : Blk (w.setRow b D) b t D := setRow_heap _ _ _ _ _ _ h
theorem Blk.row_other {w : World} {b g : Nat} {t : TypeId} {C : Array Value} (h : Blk w b t C) (D : Array Value) (hb : b ≠ g) : Blk (w.setRow g D) b t C := by
 unfold Blk; rw [setRow_other _ _ _ _ hb]; exact h
theorem below_setRow {B : Nat} {a w : World} (h : Below B a w) {g : Nat} (hg : B <= g) (D : Array Value) : Below B a (w.setRow g D) :=
 Below.trans h ⟨rfl, rfl, rfl, by simp, fun k hk => setRow_other _ _ _ _ (by omega)⟩
def Row (w : World) (b : Nat) (t : TypeId) (n : Nat) (f : Nat -> Nat) : Prop := Blk w b t (cells n f)
theorem Row.up {w w' : World} {b n : Nat} {t : TypeId} {f : Nat -> Nat} (h : Row w b t n f) (hu : Up w w') : Row w' b t n f := Blk.up h hu
theorem Row.lt {w : World} {b n : Nat} {t : TypeId} {f : Nat -> Nat} (h : Row w b t n f) : b < w.heap.size := Blk.lt h
theorem Row.cell {w : World} {b n : Nat} {t : TypeId} {f : Nat -> Nat} (h : Row w b t n f) (i : Nat) (hi : i < n) : w.cell? ⟨b, i, none⟩ = some (.int .u64 (f i : Nat)) := Blk.cell h i (cells_get n f i hi)
theorem Row.frozen {w : World} {b n : Nat} {t : TypeId} {f : Nat -> Nat} (h : Row w b t n f) (i : Nat) : w.frozen? ⟨b, i, none⟩ = false := Blk.frozen h i
theorem Row.set {w : World} {b n : Nat} {t : TypeId} {f : Nat -> Nat} (h : Row w b t n f) (i v : Nat) : Row (w.setCell ⟨b, i, none⟩ (.int .u64 (v : Nat))) b t n (upd f i v) := by
 have := Blk.set h i (.int .u64 (v : Nat)); rw [cells_set] at this; exact this
theorem Row.other {w : World} {b n : Nat} {t : TypeId} {f : Nat -> Nat} (h : Row w b t n f) (a : Addr) (v : Value) (hb : b ≠ a.block) : Row (w.setCell a v) b t n f := Blk.other h a v hb
theorem Row.setRow {w : World} {b n : Nat} {t : TypeId} {f : Nat -> Nat} (h : Row w b t n f) (g : Nat -> Nat) : Row (w.setRow b (cells n g)) b t n g := Blk.setRow h _
theorem Row.row_other {w : World} {b c n : Nat} {t : TypeId} {f : Nat -> Nat} (h : Row w b t n f) (D : Array Value) (hb : b ≠ c) : Row (w.setRow c D) b t n f := Blk.row_other h D hb
theorem Row.congr {w : World} {b n : Nat} {t : TypeId} {f g : Nat -> Nat} (h : Row w b t n f) (he : ∀ i, i < n -> f i = g i) : Row w b t n g := by
 unfold Row at *; rw [<- cells_congr he]; exact h
theorem row_new {w : World} {b : Nat} (t : TypeId) (n : Nat) (f : Nat -> Nat) (C : Array Value) (h : b = w.heap.size) (hC : C = cells n f) : Row (w.alloc (.cells C t)) b t n f := by
 subst hC; exact Blk.new _ _ h
section
variable {P : Program} {t e : TypeId} {n : Nat} {o : Oper} {a : Act} {w : World}
theorem run_ld (hu : P.underlying t = some (.array n e)) (hi : (P.info? t).map (·.size) = some n) (x : Operand) (ho : o.op = .load t x) (g : Nat) (hx : a.eval x = .pointer (some ⟨g, 0, none⟩)) {f : Nat -> Nat}
   (hC : Row w g t n f) : (execOp a.eval o).run P w = .ok (.value (.agg (cells n f))) w := by
 unfold execOp
 simp only [ho, hx, Instr.loadAt, Instr.sureAddr, Sem.run_bind, Sem.run_pure, Result.andThen_ok, run_loadVar_row w g t t (cells n f) (0, 0) _ hC hu rfl (by rw [hi, cells_size])]
theorem ld_row {ops : Array Oper} {rest : List Oper} {Q : Exit -> Act -> World -> Prop} (hu : P.underlying t = some (.array n e)) (hi : (P.info? t).map (·.size) = some n) (hgd : o.guard = none) (x : Operand) (ho : o.op = .load t x) (g : Nat)
   (hx : a.eval x = .pointer (some ⟨g, 0, none⟩)) {f : Nat -> Nat} (hC : Row w g t n f) (h : wpList P ops Q rest (a.put o.dst (.agg (cells n f))) w) : wpList P ops Q (o :: rest) a w :=
 wpList_load_row hgd t x ho g hx t (cells n f) (0, 0) _ hC hu rfl (by rw [hi, cells_size]) h
theorem wp_st_row {K : Act -> World -> Prop} {Q : Exit -> Act -> World -> Prop} (hi : (P.info? t).map (·.size) = some n) (x y : Operand) (ho : o.op = .store t x y) (g : Nat) (hx : a.eval x = .pointer (some ⟨g, 0, none⟩)) {f v : Nat -> Nat}
   (hy : a.eval y = .agg (cells n v)) (hC : Row w g t n f) (h : K (a.put o.dst undef) (w.setRow g (cells n v))) : o.wp P a w K Q :=
 wp_store_row t x y ho g (cells n v) hx hy t (cells n f) hC (by rw [hi, cells_size]) (by rw [cells_size, cells_size]) (cells_one n v) h
theorem st_row {ops : Array Oper} {rest : List Oper} {Q : Exit -> Act -> World -> Prop} (hi : (P.info? t).map (·.size) = some n) (hgd : o.guard = none) (x y : Operand) (ho : o.op = .store t x y) (g : Nat)
   (hx : a.eval x = .pointer (some ⟨g, 0, none⟩)) {f v : Nat -> Nat} (hy : a.eval y = .agg (cells n v)) (hC : Row w g t n f) (h : wpList P ops Q rest (a.put o.dst undef) (w.setRow g (cells n v))) : wpList P ops Q (o :: rest) a w :=
 wpList_plain hgd fun _ hK => wp_st_row hi x y ho g hx hy hC (hK _ _ h)
theorem wpList_run {ops : Array Oper} {rest : List Oper} {Q : Exit -> Act -> World -> Prop} {v : Value} (hw : Region.wanted o (yielded ops a.tmps) = true) (hr : (execOp a.eval o).run P w = .ok (.value v) w)
   (h : wpList P ops Q rest (a.put o.dst v) w) : wpList P ops Q (o :: rest) a w := by
 refine wpList_step fun K hK => ?_
 rw [if_pos hw]
 unfold Oper.wp
 rw [hr]
 exact hK _ _ h
theorem ld_rowP {ops : Array Oper} {rest : List Oper} {Q : Exit -> Act -> World -> Prop} {d : Option Tmp} {s : Tmp} {ty : TypeId} {pos : String} {af : Array Edge} {gd : Option (Nat × Bool)} (hu : P.underlying t = some (.array n e)) (hi : (P.info? t).map (·.size) = some n)
   {g : Nat} {f : Nat -> Nat} (hw : Region.wanted { dst := d, op := .load t (.tmp s), type := ty, pos := pos, after := af, guard := gd } (yielded ops a.tmps) = true) (hx : a.eval (.tmp s) = .pointer (some ⟨g, 0, none⟩)) (hC : Row w g t n f)
   (h : wpList P ops Q rest (a.put d (.agg (cells n f))) w) : wpList P ops Q ({ dst := d, op := .load t (.tmp s), type := ty, pos := pos, after := af, guard := gd } :: rest) a w :=
 wpList_run hw (run_ld hu hi _ rfl g hx hC) h
theorem st_rowP {ops : Array Oper} {rest : List Oper} {Q : Exit -> Act -> World -> Prop} {d : Option Tmp} {s u : Tmp} {ty : TypeId} {pos : String} {af : Array Edge} (hi : (P.info? t).map (·.size) = some n)
   {g : Nat} {f v : Nat -> Nat} (hx : a.eval (.tmp s) = .pointer (some ⟨g, 0, none⟩)) (hy : a.eval (.tmp u) = .agg (cells n v)) (hC : Row w g t n f) (h : wpList P ops Q rest (a.put d undef) (w.setRow g (cells n v))) :
   wpList P ops Q ({ dst := d, op := .store t (.tmp s) (.tmp u), type := ty, pos := pos, after := af, guard := none } :: rest) a w := st_row hi rfl _ _ rfl g hx hy hC h
theorem run_row (hu : P.underlying t = some (.array n e)) (hi : (P.info? t).map (·.size) = some n) {g : Nat} {f : Nat -> Nat} (hC : Row w g t n f) : (loadVar t ⟨g, 0, none⟩).run P w = .ok (.agg (cells n f)) w :=
 run_loadVar_row w g t t (cells n f) (0, 0) _ hC hu rfl (by rw [hi, cells_size])
theorem res1 {fn : Func} {p : Tmp} (h : fn.results = #[.cell p t]) (hu : P.underlying t = some (.array n e)) (hi : (P.info? t).map (·.size) = some n) (tmps : Array Value) (g : Nat) (hp : tmps.getD p undef = .pointer (some ⟨g, 0, none⟩))
   {f : Nat -> Nat} (hC : Row w g t n f) : (results fn tmps).run P w = .ok (.agg (cells n f)) w := results_cell_row h tmps w g t _ (0, 0) _ hp hC hu rfl (by rw [hi, cells_size])
theorem res2 {fn : Func} {p u : Tmp} (h : fn.results = #[.cell p t, .tmp u]) (hu : P.underlying t = some (.array n e)) (hi : (P.info? t).map (·.size) = some n) (tmps : Array Value) (g : Nat) (hp : tmps.getD p undef = .pointer (some ⟨g, 0, none⟩))
   {f : Nat -> Nat} (hC : Row w g t n f) : (results fn tmps).run P w = .ok (.tuple #[.agg (cells n f), tmps.getD u undef]) w := by
 rw [results_cell_tmp h, hp]
 simp only [asAddr, Sem.run_pure, Result.andThen_ok, run_row hu hi hC]
theorem resCC {fn : Func} {p q : Tmp} (h : fn.results = #[.cell p t, .cell q t]) (hu : P.underlying t = some (.array n e)) (hi : (P.info? t).map (·.size) = some n) (tmps : Array Value) (g k : Nat) (hp : tmps.getD p undef = .pointer (some ⟨g, 0, none⟩))
   (hq : tmps.getD q undef = .pointer (some ⟨k, 0, none⟩)) {f v : Nat -> Nat} (hC : Row w g t n f) (hD : Row w k t n v) : (results fn tmps).run P w = .ok (.tuple #[.agg (cells n f), .agg (cells n v)]) w := by
 have hp' : tmps[p]?.getD undef = .pointer (some ⟨g, 0, none⟩) := by simpa using hp
 have hq' : tmps[q]?.getD undef = .pointer (some ⟨k, 0, none⟩) := by simpa using hq
 simp [results, h, hp', hq', asAddr, run_row hu hi hC, run_row hu hi hD]
theorem resCCT {fn : Func} {p q u : Tmp} (h : fn.results = #[.cell p t, .cell q t, .tmp u]) (hu : P.underlying t = some (.array n e)) (hi : (P.info? t).map (·.size) = some n) (tmps : Array Value) (g k : Nat) (hp : tmps.getD p undef = .pointer (some ⟨g, 0, none⟩))
   (hq : tmps.getD q undef = .pointer (some ⟨k, 0, none⟩)) {f v : Nat -> Nat} (hC : Row w g t n f) (hD : Row w k t n v) : (results fn tmps).run P w = .ok (.tuple #[.agg (cells n f), .agg (cells n v), tmps.getD u undef]) w := by
 have hp' : tmps[p]?.getD undef = .pointer (some ⟨g, 0, none⟩) := by simpa using hp
 have hq' : tmps[q]?.getD undef = .pointer (some ⟨k, 0, none⟩) := by simpa using hq
 simp [results, h, hp', hq', asAddr, run_row hu hi hC, run_row hu hi hD]
end
theorem zeros16 : (#[.int .u64 0, .int .u64 0, .int .u64 0, .int .u64 0, .int .u64 0, .int .u64 0, .int .u64 0, .int .u64 0, .int .u64 0, .int .u64 0, .int .u64 0, .int .u64 0, .int .u64 0, .int .u64 0, .int .u64 0, .int .u64 0] : Array Value) = cells 16 (fun _ => 0) := by kernel_rfl
theorem row_newc {w : World} {b : Nat} (t : TypeId) (n : Nat) (f : Nat -> Nat) (h : b = w.heap.size) : Row (w.alloc (.cells (cells n f) t)) b t n f := row_new t n f _ h rfl
theorem row_newz {w : World} {b : Nat} (t : TypeId) (h : b = w.heap.size) : Row (w.alloc (.cells #[.int .u64 0, .int .u64 0, .int .u64 0, .int .u64 0, .int .u64 0, .int .u64 0, .int .u64 0, .int .u64 0, .int .u64 0, .int .u64 0, .int .u64 0, .int .u64 0, .int .u64 0, .int .u64 0, .int .u64 0, .int .u64 0] t)) b t 16 (fun _ => 0) :=
 row_new t 16 _ _ h zeros16
theorem row_alloc {w : World} {b n : Nat} {t : TypeId} {f : Nat -> Nat} {o : Obj} (h : Row w b t n f) : Row (w.alloc o) b t n f := h.up (Up.alloc _ _)
theorem row_same {w : World} {b n : Nat} {t : TypeId} {f g : Nat -> Nat} (h : Row w b t n f) : Row (w.setRow b (cells n g)) b t n g := h.setRow g
theorem row_else {w : World} {b c n : Nat} {t : TypeId} {f : Nat -> Nat} {D : Array Value} (hb : b ≠ c) (h : Row w b t n f) : Row (w.setRow c D) b t n f := h.row_other D hb
theorem st_rowZ {P : Program} {t : TypeId} {a : Act} {w : World} {ops : Array Oper} {rest : List Oper} {Q : Exit -> Act -> World -> Prop} {d : Option Tmp} {s u : Tmp} {ty : TypeId} {pos : String} {af : Array Edge} (hi : (P.info? t).map (·.size) = some 16)
   {g : Nat} {f : Nat -> Nat} (hx : a.eval (.tmp s) = .pointer (some ⟨g, 0, none⟩)) (hy : a.eval (.tmp u) = .agg #[.int .u64 0, .int .u64 0, .int .u64 0, .int .u64 0, .int .u64 0, .int .u64 0, .int .u64 0, .int .u64 0, .int .u64 0, .int .u64 0, .int .u64 0, .int .u64 0, .int .u64 0, .int .u64 0, .int .u64 0, .int .u64 0]) (hC : Row w g t 16 f) (h : wpList P ops Q rest (a.put d undef) (w.setRow g (cells 16 (fun _ => 0)))) :
   wpList P ops Q ({ dst := d, op := .store t (.tmp s) (.tmp u), type := ty, pos := pos, after := af, guard := none } :: rest) a w := st_rowP hi hx (by rw [hy, zeros16]) hC h
theorem row_up {w w' : World} {b n : Nat} {t : TypeId} {f : Nat -> Nat} (hu : Up w w') (h : Row w b t n f) : Row w' b t n f := h.up hu
theorem Up.of {w w' : World} (h : Below w.heap.size w w') : Up w w' := h
theorem bl_alloc {B : Nat} {a w : World} {o : Obj} (hB : B <= w.heap.size) (h : Below B a w) : Below B a (w.alloc o) := h.alloc hB o
theorem bl_setRow {B g : Nat} {a w : World} {D : Array Value} (hg : B <= g) (h : Below B a w) : Below B a (w.setRow g D) := below_setRow h hg D
theorem up_tr {w W w' : World} (hu : Up W w') (h : Below w.heap.size w W) : Below w.heap.size w w' := Up.trans h hu
theorem undW : Tryd.prog.underlying 80 = some (.array 16 56) := by kernel_rfl
theorem infoW : (Tryd.prog.info? 80).map (·.size) = some 16 := by kernel_rfl
theorem below_drewN {B : Nat} {a w : World} (h : Below B a w) (n : Nat) : Below B a (w.drewN n) := ⟨h.os, h.tape, h.output, h.size, h.block⟩
theorem ret_bool {a b : Bool} (h : a = b) : Ending.returned (.bool a) = .returned (.bool b) := by rw [h]
theorem ret_int {k : IntKind} {a b : Int} (h : a = b) : Ending.returned (.int k a) = .returned (.int k b) := by rw [h]
theorem yu_value {P : Program} {v : Value} {w : World} {r : Result Next} (h : r = .ok (.value v) w) : LeavesU P v w r := by
 subst h; exact ⟨rfl, Up.refl _⟩
theorem yu_call {P : Program} {v : Value} {w : World} {r : Result Next} {f : FuncId} {args : Array Value} (h : r = .ok (.enter f args) w)
   (hc : Calls P f args w fun e w' => e = .returned v /\ Up w w') : LeavesU P v w r := by
 subst h; exact ⟨Up.refl _, hc⟩
def sub64Entry : Array Value -> Sem Value := fun args => do
 let (x, y, b) <- Extern.MathBitsCarry.three "Sub64" args
 pure (Extern.MathBitsCarry.pair ((x + Extern.MathBitsCarry.m64 - y - b) % Extern.MathBitsCarry.m64) (if x < y + b then 1 else 0))
theorem run_sub64 {P : Program} (x y b : Nat) (hb : b <= 1) (w : World) :
   (sub64Entry #[.int .u64 x, .int .u64 y, .int .u64 b]).run P w =
    .ok (.tuple #[.int .u64 (((x + 18446744073709551616 - y - b) % 18446744073709551616 : Nat) : Int), .int .u64 ((if x < y + b then 1 else 0 : Nat) : Int)]) w := by
 have : b = 0 \/ b = 1 := by omega
 rcases this with rfl | rfl <;> rfl
theorem run_add (x y c : Nat) (hc : c <= 1) (w : World) :
   (callFunc 62 #[.int .u64 x, .int .u64 y, .int .u64 c]).run Tryd.prog w =
    .ok (.value (.tuple #[.int .u64 (((x + y + c) % 18446744073709551616 : Nat) : Int), .int .u64 (((x + y + c) / 18446744073709551616 : Nat) : Int)])) w := by
 rw [run_callFunc_extern Tryd.func62 (by kernel_rfl) (by kernel_rfl) (by kernel_rfl) (e := add64Entry) (by kernel_rfl), run_add64 x y c (by omega) (by omega) (by omega) (by omega)]
 simp only [Result.andThen]
 congr 5 <;> omega
theorem run_sub (x y b : Nat) (hb : b <= 1) (w : World) :
   (callFunc 54 #[.int .u64 x, .int .u64 y, .int .u64 b]).run Tryd.prog w =
    .ok (.value (.tuple #[.int .u64 (((x + 18446744073709551616 - y - b) % 18446744073709551616 : Nat) : Int), .int .u64 ((if x < y + b then 1 else 0 : Nat) : Int)])) w := by
 rw [run_callFunc_extern Tryd.func54 (by kernel_rfl) (by kernel_rfl) (by kernel_rfl) (e := sub64Entry) (by kernel_rfl), run_sub64 x y b hb]
 rfl
theorem gRow {w : World} {b n : Nat} {t : TypeId} {f : Nat -> Nat} (h : Row w b t n f := by (repeat (first | assumption | ((with_reducible apply row_newc); (focus (first | rfl | (simp; done)))) | ((with_reducible apply row_newz); (focus (first | rfl | (simp; done)))) | (with_reducible apply row_same) | ((with_reducible apply row_else); (focus (first | (simp; done) | (simp; omega) | omega))) | (with_reducible apply row_alloc) | (with_reducible apply row_drew) | (with_reducible apply row_drewN) | ((with_reducible apply row_up); assumption)))) : Row w b t n f := h
theorem gUp {w w' : World} (h : Up w w' := by repeat (first | assumption | (with_reducible apply Up.of) | (with_reducible exact Below.refl _ _) | (with_reducible exact Up.refl _) | ((with_reducible apply bl_setRow); (focus (first | exact Nat.le_refl _ | (simp; done) | (simp; omega) | omega))) | (with_reducible apply below_drewN) | (with_reducible apply Below.drew) | ((with_reducible apply bl_alloc); (focus (first | exact Nat.le_refl _ | (simp; done) | (simp; omega) | omega))) | ((with_reducible apply bl_setCell); (focus (first | exact Nat.le_refl _ | (simp; done) | (simp; omega) | omega))) | ((with_reducible apply up_tr); assumption))) : Up w w' := h
attribute [irreducible] cells
section
variable {P : Program} {ops : Array Oper} {Q : Exit -> Act -> World -> Prop} {md : Region.Mode} {S : World -> Prop} {req : Nat -> Bool} {oi : Oper} {v : Value} {a a' : Act} {fuel : Nat} {listed : Array Bool} {w : World}
theorem tkP (i : Nat) (d : Option Tmp) (hSup : Hid (∀ w w', S w -> Up w w' -> S w')) (h : wpAnyU P md ops Q S req fuel (listed.setIfInBounds i true) a' w)
   (hi : ops[i]? = some oi := by exact rfl) (hd : oi.dst = d := by exact rfl) (ht : pureB md ops listed i = true := by kernel_rfl) (hw : Region.wanted oi (yielded ops a.tmps) = true := by rfl)
   (hy : ∀ w', (execOp a.eval oi).run P w' = .ok (.value v) w' := by intro w'; go_simp; (try exact rfl)) (ha : a.put d v = a' := by (try simp only [Act.put, pu1, pu2, pu3]); (first | done | rfl))
   (hQ : ∀ c a w, Q (.panic c) (a.put d v) w -> Q (.panic c) a w := by exact fun _ _ _ h => h) : wpAnyU P md ops Q S req (fuel + 1) listed a w := by
 subst ha
 exact wpAnyU_pure hi hd ht hQ hSup.out (.inl ⟨hw, fun w' _ => yu_value (hy w')⟩) h
theorem tkS (i : Nat) (d : Option Tmp) (hSup : Hid (∀ w w', S w -> Up w w' -> S w')) (h : wpAnyU P md ops Q S req fuel (listed.setIfInBounds i true) a' w)
   (hi : ops[i]? = some oi := by exact rfl) (hd : oi.dst = d := by exact rfl) (ht : pureB md ops listed i = true := by kernel_rfl) (hw : Region.wanted oi (yielded ops a.tmps) = false := by rfl)
   (ha : a.put d undef = a' := by (try simp only [Act.put, pu1, pu2, pu3]); (first | done | rfl)) (hQ : ∀ c a w, Q (.panic c) (a.put d undef) w -> Q (.panic c) a w := by exact fun _ _ _ h => h) : wpAnyU P md ops Q S req (fuel + 1) listed a w := by
 subst ha
 exact wpAnyU_pure hi hd ht hQ hSup.out (.inr ⟨hw, rfl⟩) h
theorem tkO (i : Nat) (d : Option Tmp) (hi : ops[i]? = some oi) (hSup : Hid (∀ w w', S w -> Up w w' -> S w')) (h : wpAnyU P md ops Q S req fuel (listed.setIfInBounds i true) a' w)
   (hd : oi.dst = d := by exact rfl) (hy : ∀ w', (execOp a.eval oi).run P w' = .ok (.value v) w') (ht : pureB md ops listed i = true := by kernel_rfl) (hw : Region.wanted oi (yielded ops a.tmps) = true := by rfl)
   (ha : a.put d v = a' := by (try simp only [Act.put, pu1, pu2, pu3]); (first | done | rfl)) (hQ : ∀ c a w, Q (.panic c) (a.put d v) w -> Q (.panic c) a w := by exact fun _ _ _ h => h) : wpAnyU P md ops Q S req (fuel + 1) listed a w := by
 subst ha
 exact wpAnyU_pure hi hd ht hQ hSup.out (.inl ⟨hw, fun w' _ => yu_value (hy w')⟩) h
theorem tkT (i : Nat) (d : Option Tmp) (hi : ops[i]? = some oi) (hSup : Hid (∀ w w', S w -> Up w w' -> S w')) (hS : S w) (h : wpAnyU P md ops Q S req fuel (listed.setIfInBounds i true) a' w)
   (hd : oi.dst = d := by exact rfl) (hy : ∀ w', S w' -> (execOp a.eval oi).run P w' = .ok (.value v) w') (ht : takeB md ops req listed i = true := by kernel_rfl) (hw : Region.wanted oi (yielded ops a.tmps) = true := by rfl)
   (ha : a.put d v = a' := by (try simp only [Act.put, pu1, pu2, pu3]); (first | done | rfl)) (hQ : ∀ c a w, Q (.panic c) (a.put d v) w -> Q (.panic c) a w := by exact fun _ _ _ h => h) : wpAnyU P md ops Q S req (fuel + 1) listed a w := by
 subst ha
 exact wpAnyU_take hi hd ht hQ hSup.out hS (.inl ⟨hw, fun w' hSw => yu_value (hy w' hSw)⟩) h
theorem tkC (i : Nat) (d : Option Tmp) (hi : ops[i]? = some oi) {f : FuncId} {args : Array Value} (hSup : Hid (∀ w w', S w -> Up w w' -> S w')) (hS : S w) (h : wpAnyU P md ops Q S req fuel (listed.setIfInBounds i true) a' w)
   (hd : oi.dst = d := by exact rfl) (hy : ∀ w', S w' -> Calls P f args w' fun e w'' => e = .returned v /\ Up w' w'') (ht : takeB md ops req listed i = true := by kernel_rfl) (hw : Region.wanted oi (yielded ops a.tmps) = true := by rfl)
   (hr : ∀ w', (execOp a.eval oi).run P w' = .ok (.enter f args) w' := by intro w'; go_simp)
   (ha : a.put d v = a' := by (try simp only [Act.put, pu1, pu2, pu3]); (first | done | rfl)) (hQ : ∀ c a w, Q (.panic c) (a.put d v) w -> Q (.panic c) a w := by exact fun _ _ _ h => h) : wpAnyU P md ops Q S req (fuel + 1) listed a w := by
 subst ha
 exact wpAnyU_take hi hd ht hQ hSup.out hS (.inl ⟨hw, fun w' hSw => yu_call (hr w') (hy w' hSw)⟩) h
theorem opU {id : Nat} (hSup : ∀ w w', S w -> Up w w' -> S w') (hS : S w) (h : ∀ w', S w' -> Hid (∀ w w', S w -> Up w w' -> S w') -> wpAnyU P .any ops Q S req ops.size (Array.replicate ops.size false) a w')
   (hm : P.follows .mixedOrders = true := by kernel_rfl) : (Code.region id ops true).wp P Q a w := wp_region_upH hm hSup hS h
end
set_option maxHeartbeats 400000 in
theorem minus_any (x : Nat) (w : World) :
   Calls Tryd.prog 49 #[wideV x] w fun e w' => e = .returned (.bool (decide (9223372036854775808 <= limb x 15))) /\ Up w w' := by
 have hc := cells_get 16 (limb x) 15 (by decide)
 have hl := limb_lt x 15
 unfold wideV
 generalize cells 16 (limb x) = C at *
 generalize limb x 15 = l at *
 go_enter Tryd.func49, Tryd.ntmps49
 go_wp2
 go_ret
 refine ⟨ret_bool ?_, Up.alloc _ _⟩
 rw [Bool.eq_iff_iff, bne_iff_ne, decide_eq_true_iff]
 omega
set_option maxHeartbeats 400000 in
theorem plus_any (x y : Nat) (w : World) :
   Calls Tryd.prog 59 #[wideV x, wideV y] w fun e w' => e = .returned (wideV ((x + y) % bp 16)) /\ Up w w' := by
 unfold wideV
 go_enter Tryd.func59, Tryd.ntmps59
 go_wp2
 go_loopw [5, 7] (fun c i wr => ∃ (k cc : Nat) (g : Nat -> Nat), k <= 16 /\ i = .int .i64 k /\ c = .int .u64 cc /\ cc <= 1 /\ (∀ i, i < 16 -> g i < 18446744073709551616) /\
    (∀ i, k <= i -> i < 16 -> g i = limb x i) /\ sumL g k + cc * bp k = sumL (limb x) k + sumL (limb y) k /\
    Row wr w.heap.size 80 16 g /\ Row wr (w.heap.size + 1) 80 16 (limb y) /\
    Row wr (w.heap.size + 1 + 1) 80 16 (fun _ => 0) /\ Below w.heap.size w wr)
  (fun _ i _ => 16 - (intOf i).toNat)
 case atStart =>
  refine ⟨0, 0, limb x, by omega, rfl, rfl, by omega, fun i _ => limb_lt x i, fun i _ _ => rfl, by simp [sumL_zero], (((row_new _ 16 (limb x) _ rfl rfl).up (Up.alloc _ _)).up (Up.alloc _ _)), (row_new _ 16 (limb y) _ (by simp) rfl).up (Up.alloc _ _), row_new _ 16 _ _ (by simp) zeros16, ?_⟩
  exact (((Below.refl _ _).alloc (Nat.le_refl _) _).alloc (by simp) _).alloc (by simp; omega) _
 case round =>
  obtain ⟨k, cc, g, hk, rfl, rfl, hcc, hg, hgx, hsum, hX, hY, hZ, hB⟩ := hrel
  have Hs := hid hsum
  have Hgx := hid hgx
  clear hsum hgx
  by_cases hlt : k < 16
  ·have hcx := hX.cell k hlt
   have hcy := hY.cell k hlt
   have hfx := hX.frozen k
   obtain ⟨r, c', hadd, hr, hc', hrl, hc1⟩ : ∃ r c' : Nat, (∀ w, (callFunc 62 #[.int .u64 (g k : Nat), .int .u64 (limb y k : Nat), .int .u64 (cc : Nat)]).run Tryd.prog w = .ok (.value (.tuple #[.int .u64 (r : Nat), .int .u64 (c' : Nat)])) w) /\
      Hid (r = (g k + limb y k + cc) % 18446744073709551616) /\ Hid (c' = (g k + limb y k + cc) / 18446744073709551616) /\ r < 18446744073709551616 /\ c' <= 1 :=
    ⟨_, _, run_add (g k) (limb y k) cc hcc, hid rfl, hid rfl, Nat.mod_lt _ (by decide), by have := hg k hlt; have := limb_lt y k; omega⟩
   go_wp2
   refine wp_region_up (S := (fun w' => w'.cell? ⟨w.heap.size, k, none⟩ = some (.int .u64 (g k : Nat)) /\ w'.cell? ⟨w.heap.size + 1, k, none⟩ = some (.int .u64 (limb y k : Nat)))) (req := (fun j => j != 13)) (by kernel_rfl) ?_
   refine wpAnyU_pure (i := 0) (d := (some 11)) (v := ?_) rfl rfl (by kernel_rfl) (fun _ _ _ h => h) (fun _ _ h hu => ⟨hu.cell h.1, hu.cell h.2⟩) (Or.inl ⟨by rfl, fun w' _ => yu_value ?_⟩) ?_
   rotate_left
   ·(go_simp; (try exact rfl))
   try simp only [Act.put, pu1, pu2, pu3]
   refine wpAnyU_pure (i := 1) (d := (some 12)) (v := ?_) rfl rfl (by kernel_rfl) (fun _ _ _ h => h) (fun _ _ h hu => ⟨hu.cell h.1, hu.cell h.2⟩) (Or.inl ⟨by rfl, fun w' _ => yu_value ?_⟩) ?_
   rotate_left
   ·(go_simp; (try exact rfl))
   try simp only [Act.put, pu1, pu2, pu3]
   refine wpAnyU_pure (i := 2) (d := (some 13)) (v := ?_) rfl rfl (by kernel_rfl) (fun _ _ _ h => h) (fun _ _ h hu => ⟨hu.cell h.1, hu.cell h.2⟩) (Or.inl ⟨by rfl, fun w' _ => yu_value ?_⟩) ?_
   rotate_left
   ·(go_simp; (try exact rfl))
   try simp only [Act.put, pu1, pu2, pu3]
   refine wpAnyU_take (i := 3) (d := (some 14)) (v := ?_) rfl rfl (by kernel_rfl) (fun _ _ _ h => h) (fun _ _ h hu => ⟨hu.cell h.1, hu.cell h.2⟩) ⟨hcx, hcy⟩ (Or.inl ⟨by rfl, fun w' hSw => yu_value ?_⟩) ?_
   rotate_left
   ·((try dsimp only at hSw); (try obtain ⟨_, _⟩ := hSw); go_simp; (try exact rfl))
   try simp only [Act.put, pu1, pu2, pu3]
   refine wpAnyU_pure (i := 4) (d := (some 15)) (v := ?_) rfl rfl (by kernel_rfl) (fun _ _ _ h => h) (fun _ _ h hu => ⟨hu.cell h.1, hu.cell h.2⟩) (Or.inl ⟨by rfl, fun w' _ => yu_value ?_⟩) ?_
   rotate_left
   ·(go_simp; (try exact rfl))
   try simp only [Act.put, pu1, pu2, pu3]
   refine wpAnyU_pure (i := 5) (d := (some 16)) (v := ?_) rfl rfl (by kernel_rfl) (fun _ _ _ h => h) (fun _ _ h hu => ⟨hu.cell h.1, hu.cell h.2⟩) (Or.inl ⟨by rfl, fun w' _ => yu_value ?_⟩) ?_
   rotate_left
   ·(go_simp; (try exact rfl))
   try simp only [Act.put, pu1, pu2, pu3]
   refine wpAnyU_take (i := 6) (d := (some 17)) (v := ?_) rfl rfl (by kernel_rfl) (fun _ _ _ h => h) (fun _ _ h hu => ⟨hu.cell h.1, hu.cell h.2⟩) ⟨hcx, hcy⟩ (Or.inl ⟨by rfl, fun w' hSw => yu_value ?_⟩) ?_
   rotate_left
   ·((try dsimp only at hSw); (try obtain ⟨_, _⟩ := hSw); go_simp; (try exact rfl))
   try simp only [Act.put, pu1, pu2, pu3]
   refine wpAnyU_pure (i := 7) (d := (some 18)) (v := ?_) rfl rfl (by kernel_rfl) (fun _ _ _ h => h) (fun _ _ h hu => ⟨hu.cell h.1, hu.cell h.2⟩) (Or.inl ⟨by rfl, fun w' _ => yu_value ?_⟩) ?_
   rotate_left
   ·(go_simp; (try exact rfl))
   try simp only [Act.put, pu1, pu2, pu3]
   refine wpAnyU_pure (i := 8) (d := (some 19)) (v := ?_) rfl rfl (by kernel_rfl) (fun _ _ _ h => h) (fun _ _ h hu => ⟨hu.cell h.1, hu.cell h.2⟩) (Or.inl ⟨by rfl, fun w' _ => yu_value ?_⟩) ?_
   rotate_left
   ·(go_simp; (try exact rfl))
   try simp only [Act.put, pu1, pu2, pu3]
   refine wpAnyU_pure (i := 9) (d := (some 10)) (v := ?_) rfl rfl (by kernel_rfl) (fun _ _ _ h => h) (fun _ _ h hu => ⟨hu.cell h.1, hu.cell h.2⟩) (Or.inl ⟨by rfl, fun w' _ => yu_value ?_⟩) ?_
   rotate_left
   ·(go_simp; (try exact rfl))
   try simp only [Act.put, pu1, pu2, pu3]
   refine wpAnyU_pure (i := 10) (d := (some 20)) (v := ?_) rfl rfl (by kernel_rfl) (fun _ _ _ h => h) (fun _ _ h hu => ⟨hu.cell h.1, hu.cell h.2⟩) (Or.inl ⟨by rfl, fun w' _ => yu_value ?_⟩) ?_
   rotate_left
   ·(go_simp; (try exact rfl))
   try simp only [Act.put, pu1, pu2, pu3]
   refine wpAnyU_pure (i := 11) (d := (some 21)) (v := ?_) rfl rfl (by kernel_rfl) (fun _ _ _ h => h) (fun _ _ h hu => ⟨hu.cell h.1, hu.cell h.2⟩) (Or.inl ⟨by rfl, fun w' _ => yu_value ?_⟩) ?_
   rotate_left
   ·(go_simp; (try exact rfl))
   try simp only [Act.put, pu1, pu2, pu3]
   refine wpAnyU_pure (i := 12) (d := (some 22)) (v := ?_) rfl rfl (by kernel_rfl) (fun _ _ _ h => h) (fun _ _ h hu => ⟨hu.cell h.1, hu.cell h.2⟩) (Or.inl ⟨by rfl, fun w' _ => yu_value ?_⟩) ?_
   rotate_left
   ·(go_simp; (try exact rfl))
   try simp only [Act.put, pu1, pu2, pu3]
   refine wpAnyU_one (i := 13) rfl (by kernel_rfl) (by rfl) fun w1 hw1 => ?_
   have h1 := (hX.up ((Up.drew _).trans hw1)).cell k hlt
   have h2 := (hX.up ((Up.drew _).trans hw1)).frozen k
   go_simp
   refine wpAnyU_pure (i := 14) (d := (some 5)) (v := ?_) rfl rfl (by kernel_rfl) (fun _ _ _ h => h) (fun _ _ h hu => ⟨hu.cell h.1, hu.cell h.2⟩) (Or.inl ⟨by rfl, fun w' _ => yu_value ?_⟩) ?_
   rotate_left
   ·(go_simp; (try exact rfl))
   try simp only [Act.put, pu1, pu2, pu3]
   refine wpAnyU_done (by kernel_rfl) (fun w3 hw3 => ?_) _
   have hu := (Up.drew wr).trans hw1
   have hu2 := hw3
   have gX := ((hX.up hu).set k r).up hu2
   have gY := ((hY.up hu).other ⟨w.heap.size, k, none⟩ (.int .u64 (r : Nat)) (by simp)).up hu2
   have gZ := ((hZ.up hu).other ⟨w.heap.size, k, none⟩ (.int .u64 (r : Nat)) (by simp; omega)).up hu2
   have gB : Below w.heap.size w w3 := hu2.below ((hu.below hB (by have := hX.lt; omega)).setCell (p := ⟨w.heap.size, k, none⟩) (Nat.le_refl _) _) (by have := ((hX.up hu).set k r).lt; omega)
   clear hcx hcy hfx hadd h1 h2 hX hY hZ hB hw1 hw3 hu hu2
   go_wp2
   go_roundw
   case rel =>
    refine ⟨k + 1, c', upd g k r, by omega, by go_num, rfl, hc1, upd_lt hg hrl, fun i h1 h2 => by rw [upd_other _ _ _ (by omega)]; exact Hgx.out i (by omega) h2, ?_, gX, gY, gZ, gB⟩
    rw [sumL_upd_succ, hr.out, hc'.out, bp_succ, sumL_succ, sumL_succ, Hgx.out k (Nat.le_refl _) hlt]
    exact add_step _ _ _ _ _ _ _ Hs.out
   case measure => simp [intOf]; omega
  ·obtain rfl : k = 16 := by omega
   go_wp2_with (first | (refine ld_row undW infoW rfl _ rfl _ rfl hX ?_) | (refine st_row infoW rfl _ _ rfl _ rfl rfl hZ ?_))
   have gZ := hZ.setRow g
   exact bodyPost_ret (res1 rfl undW infoW _ _ rfl gZ) rfl ⟨by
    have h := mod_of_carry (sumL_lt hg) Hs.out
    rw [sumL_limb, sumL_limb, <- Nat.add_mod] at h
    rw [wide_of hg, h]; rfl, below_setRow hB (by omega) _⟩
set_option maxHeartbeats 400000 in
theorem less_any (x y : Nat) (hx : x < bp 16) (hy : y < bp 16) (w : World) :
   Calls Tryd.prog 58 #[wideV x, wideV y] w fun e w' => e = .returned (wideV ((x + bp 16 - y) % bp 16)) /\ Up w w' := by
 unfold wideV
 go_enter Tryd.func58, Tryd.ntmps58
 go_wp2
 go_loopw [5, 7] (fun c i wr => ∃ (k cc : Nat) (g : Nat -> Nat), k <= 16 /\ i = .int .i64 k /\ c = .int .u64 cc /\ cc <= 1 /\ (∀ i, i < 16 -> g i < 18446744073709551616) /\
    (∀ i, k <= i -> i < 16 -> g i = limb x i) /\ sumL g k + sumL (limb y) k = sumL (limb x) k + cc * bp k /\
    Row wr w.heap.size 80 16 g /\ Row wr (w.heap.size + 1) 80 16 (limb y) /\
    Row wr (w.heap.size + 1 + 1) 80 16 (fun _ => 0) /\ Below w.heap.size w wr)
  (fun _ i _ => 16 - (intOf i).toNat)
 case atStart =>
  refine ⟨0, 0, limb x, by omega, rfl, rfl, by omega, fun i _ => limb_lt x i, fun i _ _ => rfl, by simp [sumL_zero], (((row_new _ 16 (limb x) _ rfl rfl).up (Up.alloc _ _)).up (Up.alloc _ _)), (row_new _ 16 (limb y) _ (by simp) rfl).up (Up.alloc _ _), row_new _ 16 _ _ (by simp) zeros16, ?_⟩
  exact (((Below.refl _ _).alloc (Nat.le_refl _) _).alloc (by simp) _).alloc (by simp; omega) _
 case round =>
  obtain ⟨k, cc, g, hk, rfl, rfl, hcc, hg, hgx, hsum, hX, hY, hZ, hB⟩ := hrel
  have Hs := hid hsum
  have Hgx := hid hgx
  clear hsum hgx
  by_cases hlt : k < 16
  ·have hcx := hX.cell k hlt
   have hcy := hY.cell k hlt
   have hfx := hX.frozen k
   obtain ⟨r, c', hadd, hr, hrl, hc1⟩ : ∃ r c' : Nat, (∀ w, (callFunc 54 #[.int .u64 (g k : Nat), .int .u64 (limb y k : Nat), .int .u64 (cc : Nat)]).run Tryd.prog w = .ok (.value (.tuple #[.int .u64 (r : Nat), .int .u64 (c' : Nat)])) w) /\
      Hid (r + limb y k + cc = g k + c' * 18446744073709551616) /\ r < 18446744073709551616 /\ c' <= 1 :=
    ⟨_, _, run_sub (g k) (limb y k) cc hcc, hid (by have := hg k hlt; have := limb_lt y k; split <;> omega), Nat.mod_lt _ (by decide), by split <;> omega⟩
   go_wp2
   refine wp_region_up (S := (fun w' => w'.cell? ⟨w.heap.size, k, none⟩ = some (.int .u64 (g k : Nat)) /\ w'.cell? ⟨w.heap.size + 1, k, none⟩ = some (.int .u64 (limb y k : Nat)))) (req := (fun j => j != 13)) (by kernel_rfl) ?_
   refine wpAnyU_pure (i := 0) (d := (some 11)) (v := ?_) rfl rfl (by kernel_rfl) (fun _ _ _ h => h) (fun _ _ h hu => ⟨hu.cell h.1, hu.cell h.2⟩) (Or.inl ⟨by rfl, fun w' _ => yu_value ?_⟩) ?_
   rotate_left
   ·(go_simp; (try exact rfl))
   try simp only [Act.put, pu1, pu2, pu3]
   refine wpAnyU_pure (i := 1) (d := (some 12)) (v := ?_) rfl rfl (by kernel_rfl) (fun _ _ _ h => h) (fun _ _ h hu => ⟨hu.cell h.1, hu.cell h.2⟩) (Or.inl ⟨by rfl, fun w' _ => yu_value ?_⟩) ?_
   rotate_left
   ·(go_simp; (try exact rfl))
   try simp only [Act.put, pu1, pu2, pu3]
   refine wpAnyU_pure (i := 2) (d := (some 13)) (v := ?_) rfl rfl (by kernel_rfl) (fun _ _ _ h => h) (fun _ _ h hu => ⟨hu.cell h.1, hu.cell h.2⟩) (Or.inl ⟨by rfl, fun w' _ => yu_value ?_⟩) ?_
   rotate_left
   ·(go_simp; (try exact rfl))
   try simp only [Act.put, pu1, pu2, pu3]
   refine wpAnyU_take (i := 3) (d := (some 14)) (v := ?_) rfl rfl (by kernel_rfl) (fun _ _ _ h => h) (fun _ _ h hu => ⟨hu.cell h.1, hu.cell h.2⟩) ⟨hcx, hcy⟩ (Or.inl ⟨by rfl, fun w' hSw => yu_value ?_⟩) ?_
   rotate_left
   ·((try dsimp only at hSw); (try obtain ⟨_, _⟩ := hSw); go_simp; (try exact rfl))
   try simp only [Act.put, pu1, pu2, pu3]
   refine wpAnyU_pure (i := 4) (d := (some 15)) (v := ?_) rfl rfl (by kernel_rfl) (fun _ _ _ h => h) (fun _ _ h hu => ⟨hu.cell h.1, hu.cell h.2⟩) (Or.inl ⟨by rfl, fun w' _ => yu_value ?_⟩) ?_
   rotate_left
   ·(go_simp; (try exact rfl))
   try simp only [Act.put, pu1, pu2, pu3]
   refine wpAnyU_pure (i := 5) (d := (some 16)) (v := ?_) rfl rfl (by kernel_rfl) (fun _ _ _ h => h) (fun _ _ h hu => ⟨hu.cell h.1, hu.cell h.2⟩) (Or.inl ⟨by rfl, fun w' _ => yu_value ?_⟩) ?_
   rotate_left
   ·(go_simp; (try exact rfl))
   try simp only [Act.put, pu1, pu2, pu3]
   refine wpAnyU_take (i := 6) (d := (some 17)) (v := ?_) rfl rfl (by kernel_rfl) (fun _ _ _ h => h) (fun _ _ h hu => ⟨hu.cell h.1, hu.cell h.2⟩) ⟨hcx, hcy⟩ (Or.inl ⟨by rfl, fun w' hSw => yu_value ?_⟩) ?_
   rotate_left
   ·((try dsimp only at hSw); (try obtain ⟨_, _⟩ := hSw); go_simp; (try exact rfl))
   try simp only [Act.put, pu1, pu2, pu3]
   refine wpAnyU_pure (i := 7) (d := (some 18)) (v := ?_) rfl rfl (by kernel_rfl) (fun _ _ _ h => h) (fun _ _ h hu => ⟨hu.cell h.1, hu.cell h.2⟩) (Or.inl ⟨by rfl, fun w' _ => yu_value ?_⟩) ?_
   rotate_left
   ·(go_simp; (try exact rfl))
   try simp only [Act.put, pu1, pu2, pu3]
   refine wpAnyU_pure (i := 8) (d := (some 19)) (v := ?_) rfl rfl (by kernel_rfl) (fun _ _ _ h => h) (fun _ _ h hu => ⟨hu.cell h.1, hu.cell h.2⟩) (Or.inl ⟨by rfl, fun w' _ => yu_value ?_⟩) ?_
   rotate_left
   ·(go_simp; (try exact rfl))
   try simp only [Act.put, pu1, pu2, pu3]
   refine wpAnyU_pure (i := 9) (d := (some 10)) (v := ?_) rfl rfl (by kernel_rfl) (fun _ _ _ h => h) (fun _ _ h hu => ⟨hu.cell h.1, hu.cell h.2⟩) (Or.inl ⟨by rfl, fun w' _ => yu_value ?_⟩) ?_
   rotate_left
   ·(go_simp; (try exact rfl))
   try simp only [Act.put, pu1, pu2, pu3]
   refine wpAnyU_pure (i := 10) (d := (some 20)) (v := ?_) rfl rfl (by kernel_rfl) (fun _ _ _ h => h) (fun _ _ h hu => ⟨hu.cell h.1, hu.cell h.2⟩) (Or.inl ⟨by rfl, fun w' _ => yu_value ?_⟩) ?_
   rotate_left
   ·(go_simp; (try exact rfl))
   try simp only [Act.put, pu1, pu2, pu3]
   refine wpAnyU_pure (i := 11) (d := (some 21)) (v := ?_) rfl rfl (by kernel_rfl) (fun _ _ _ h => h) (fun _ _ h hu => ⟨hu.cell h.1, hu.cell h.2⟩) (Or.inl ⟨by rfl, fun w' _ => yu_value ?_⟩) ?_
   rotate_left
   ·(go_simp; (try exact rfl))
   try simp only [Act.put, pu1, pu2, pu3]
   refine wpAnyU_pure (i := 12) (d := (some 22)) (v := ?_) rfl rfl (by kernel_rfl) (fun _ _ _ h => h) (fun _ _ h hu => ⟨hu.cell h.1, hu.cell h.2⟩) (Or.inl ⟨by rfl, fun w' _ => yu_value ?_⟩) ?_
   rotate_left
   ·(go_simp; (try exact rfl))
   try simp only [Act.put, pu1, pu2, pu3]
   refine wpAnyU_one (i := 13) rfl (by kernel_rfl) (by rfl) fun w1 hw1 => ?_
   have h1 := (hX.up ((Up.drew _).trans hw1)).cell k hlt
   have h2 := (hX.up ((Up.drew _).trans hw1)).frozen k
   go_simp
   refine wpAnyU_pure (i := 14) (d := (some 5)) (v := ?_) rfl rfl (by kernel_rfl) (fun _ _ _ h => h) (fun _ _ h hu => ⟨hu.cell h.1, hu.cell h.2⟩) (Or.inl ⟨by rfl, fun w' _ => yu_value ?_⟩) ?_
   rotate_left
   ·(go_simp; (try exact rfl))
   try simp only [Act.put, pu1, pu2, pu3]
   refine wpAnyU_done (by kernel_rfl) (fun w3 hw3 => ?_) _
   have hu := (Up.drew wr).trans hw1
   have hu2 := hw3
   have gX := ((hX.up hu).set k r).up hu2
   have gY := ((hY.up hu).other ⟨w.heap.size, k, none⟩ (.int .u64 (r : Nat)) (by simp)).up hu2
   have gZ := ((hZ.up hu).other ⟨w.heap.size, k, none⟩ (.int .u64 (r : Nat)) (by simp; omega)).up hu2
   have gB : Below w.heap.size w w3 := hu2.below ((hu.below hB (by have := hX.lt; omega)).setCell (p := ⟨w.heap.size, k, none⟩) (Nat.le_refl _) _) (by have := ((hX.up hu).set k r).lt; omega)
   clear hcx hcy hfx hadd h1 h2 hX hY hZ hB hw1 hw3 hu hu2
   go_wp2
   go_roundw
   case rel =>
    refine ⟨k + 1, c', upd g k r, by omega, by go_num, rfl, hc1, upd_lt hg hrl, fun i h1 h2 => by rw [upd_other _ _ _ (by omega)]; exact Hgx.out i (by omega) h2, ?_, gX, gY, gZ, gB⟩
    have e := hr.out
    rw [Hgx.out k (Nat.le_refl _) hlt] at e
    rw [sumL_upd_succ, bp_succ, sumL_succ, sumL_succ]
    exact sub_step _ _ _ _ _ _ _ _ _ Hs.out e
   case measure => simp [intOf]; omega
  ·obtain rfl : k = 16 := by omega
   go_wp2_with (first | (refine ld_row undW infoW rfl _ rfl _ rfl hX ?_) | (refine st_row infoW rfl _ _ rfl _ rfl rfl hZ ?_))
   have gZ := hZ.setRow g
   exact bodyPost_ret (res1 rfl undW infoW _ _ rfl gZ) rfl ⟨by
    have h := Hs.out
    rw [sumL_limb, sumL_limb, Nat.mod_eq_of_lt hx, Nat.mod_eq_of_lt hy] at h
    have h := sub_final h (sumL_lt hg) hx hy
    rw [wide_of hg, h]; rfl, below_setRow hB (by omega) _⟩
theorem minus_z {z : Int} (h : InR z) (w : World) :
   Calls Tryd.prog 49 #[wideV (enc z)] w fun e w' => e = .returned (.bool (decide (z < 0))) /\ Up w w' := by
 refine (minus_any (enc z) w).mono ?_
 rintro e w' ⟨rfl, hu⟩
 refine ⟨ret_bool ?_, hu⟩
 rw [Bool.eq_iff_iff, decide_eq_true_iff, decide_eq_true_iff, top_iff (enc_lt z), enc_neg_iff h]
theorem less_z (a b : Int) (w : World) :
   Calls Tryd.prog 58 #[wideV (enc a), wideV (enc b)] w fun e w' => e = .returned (wideV (enc (a - b))) /\ Up w w' := by
 refine (less_any (enc a) (enc b) (enc_lt a) (enc_lt b) w).mono ?_
 rintro e w' ⟨rfl, hu⟩
 exact ⟨by rw [enc_sub], hu⟩
theorem plus_z (a b : Int) (w : World) :
   Calls Tryd.prog 59 #[wideV (enc a), wideV (enc b)] w fun e w' => e = .returned (wideV (enc (a + b))) /\ Up w w' := by
 refine (plus_any (enc a) (enc b) w).mono ?_
 rintro e w' ⟨rfl, hu⟩
 exact ⟨by rw [enc_add], hu⟩
theorem zero_limb : cells 16 (fun _ => 0) = cells 16 (limb (enc 0)) := by
 rw [enc_zero]
 exact cells_congr fun i _ => by unfold limb; simp
theorem zeroV : wideV (enc 0) = .agg #[.int .u64 0, .int .u64 0, .int .u64 0, .int .u64 0, .int .u64 0, .int .u64 0, .int .u64 0, .int .u64 0, .int .u64 0, .int .u64 0, .int .u64 0, .int .u64 0, .int .u64 0, .int .u64 0, .int .u64 0, .int .u64 0] := by
 rw [zeros16, zero_limb, wideV]
theorem neg_z (b : Int) (w : World) :
   Calls Tryd.prog 58 #[.agg #[.int .u64 0, .int .u64 0, .int .u64 0, .int .u64 0, .int .u64 0, .int .u64 0, .int .u64 0, .int .u64 0, .int .u64 0, .int .u64 0, .int .u64 0, .int .u64 0, .int .u64 0, .int .u64 0, .int .u64 0, .int .u64 0], .agg (cells 16 (limb (enc b)))] w
    fun e w' => e = .returned (wideV (enc (-b))) /\ Up w w' := by
 have h := less_z 0 b w
 rw [zeroV, Int.zero_sub] at h
 exact h
theorem neg_abs {z : Int} (h : InR z) (hs : z < 0) : enc (-z) = z.natAbs := by
 have h1 := enc_neg h hs
 have h2 := enc_lt z
 have h4 := hb_pos
 have h5 := enc_natAbs h
 have h3 : (enc 0 + bp 16 - enc z) % bp 16 = enc (0 - z) := enc_sub 0 z
 rw [Int.zero_sub] at h3
 rw [<- h3, enc_zero, Nat.zero_add, Nat.mod_eq_of_lt (by omega), h1.1]
 omega
theorem und64 : Tryd.prog.underlying 56 = some (.int .u64) := by kernel_rfl
theorem run_part64 (f : Nat -> Nat) (n i : Nat) (h : i < n) (w : World) : (part 56 (cells n f) i).run Tryd.prog w = .ok (.int .u64 (f i : Nat)) w := by
 have := cells_get n f i h
 simp [part, this]
theorem run_eqItems (f g : Nat -> Nat) (n d : Nat) (w : World) : ∀ is : List Nat, (∀ i ∈ is, i < n) ->
   (Op.eqItems (d + 1) 56 1 (cells n f) (cells n g) is).run Tryd.prog w = .ok (decide (∀ i ∈ is, f i = g i)) w
 | [], _ => by simp [Op.eqItems]
 | i :: is, h => by
   have h1 := run_part64 f n i (h i (by simp)) w
   have h2 := run_part64 g n i (h i (by simp)) w
   have h3 := run_equalIn_int (P := Tryd.prog) w d 56 .u64 .u64 (f i : Nat) (g i : Nat) und64
   have ih := run_eqItems f g n d w is fun j hj => h j (by simp [hj])
   rw [Op.eqItems]
   simp only [Nat.mul_one, Sem.run_bind, h1, h2, h3, Result.andThen_ok]
   by_cases e : f i = g i
   ·have : (!((f i : Int) == (g i : Int))) = false := by simp [e]
    simp only [this, Bool.false_eq_true, if_false, ih]
    congr 1
    simp [e]
   ·have : (!((f i : Int) == (g i : Int))) = true := by simp; omega
    simp only [this, if_true, Sem.run_pure]
    congr 1
    symm
    rw [decide_eq_false_iff_not]
    intro h; exact e (h i (by simp))
theorem limb_eq_iff {x y : Nat} (hx : x < bp 16) (hy : y < bp 16) : (∀ i ∈ List.range 16, limb x i = limb y i) ↔ x = y := by
 constructor
 ·intro h
  rw [<- Nat.mod_eq_of_lt hx, <- Nat.mod_eq_of_lt hy, <- sumL_limb, <- sumL_limb]
  exact sumL_congr fun i hi => h i (by simpa using hi)
 ·intro h i _; rw [h]
theorem run_equalW {x y : Nat} (hx : x < bp 16) (hy : y < bp 16) (w : World) : (Op.equal 80 (.agg (cells 16 (limb x))) (.agg (cells 16 (limb y)))).run Tryd.prog w = .ok (decide (x = y)) w := by
 obtain ⟨i, hi⟩ := Option.isSome_iff_exists.1 (show (Tryd.prog.info? 56).isSome = true by kernel_rfl)
 have hc : Tryd.prog.cellsOf 56 = 1 := by kernel_rfl
 unfold Op.equal
 rw [show Op.maxDepth = 9998 + 1 + 1 from rfl, run_equalIn_array w (9998 + 1) _ _ undW hi, hc, run_eqItems (limb x) (limb y) 16 9998 w (List.range 16) (by simp)]
 congr 1
 rw [Bool.eq_iff_iff, decide_eq_true_iff, decide_eq_true_iff, limb_eq_iff hx hy]
theorem run_eqW {x y : Nat} (hx : x < bp 16) (hy : y < bp 16) (w : World) : (binOp .eql 80 (.agg (cells 16 (limb x))) (.agg (cells 16 (limb y)))).run Tryd.prog w = .ok (.bool (decide (x = y))) w := by
 simp only [binOp, Sem.run_bind, run_equalW hx hy, Result.andThen_ok, Sem.run_pure]
theorem run_neW {x y : Nat} (hx : x < bp 16) (hy : y < bp 16) (w : World) : (binOp .neq 80 (.agg (cells 16 (limb x))) (.agg (cells 16 (limb y)))).run Tryd.prog w = .ok (.bool (!decide (x = y))) w := by
 simp only [binOp, Sem.run_bind, run_equalW hx hy, Result.andThen_ok, Sem.run_pure]
theorem op_eqW {o : Oper} {a : Act} {x y : Operand} {u : TypeId} (ho : o.op = .binOp .eql 80 x y u) {p q : Nat} (hx : a.eval x = .agg (cells 16 (limb p))) (hy : a.eval y = .agg (cells 16 (limb q))) (hp : p < bp 16) (hq : q < bp 16) (w : World) :
   (execOp a.eval o).run Tryd.prog w = .ok (.value (.bool (decide (p = q)))) w := by
 unfold execOp
 simp only [ho, hx, hy, Sem.run_bind, run_eqGuard_agg _ _ _ _ _ _ _ (show Tryd.prog.eqGuardType Tryd.prog.depth 80 = false by kernel_rfl), Result.andThen_ok, run_eqW hp hq, Sem.run_pure]
theorem op_neW {o : Oper} {a : Act} {x y : Operand} {u : TypeId} (ho : o.op = .binOp .neq 80 x y u) {p q : Nat} (hx : a.eval x = .agg (cells 16 (limb p))) (hy : a.eval y = .agg (cells 16 (limb q))) (hp : p < bp 16) (hq : q < bp 16) (w : World) :
   (execOp a.eval o).run Tryd.prog w = .ok (.value (.bool (!decide (p = q)))) w := by
 unfold execOp
 simp only [ho, hx, hy, Sem.run_bind, run_eqGuard_agg _ _ _ _ _ _ _ (show Tryd.prog.eqGuardType Tryd.prog.depth 80 = false by kernel_rfl), Result.andThen_ok, run_neW hp hq, Sem.run_pure]
def IsB (b v : Bool) : Prop := b = v
theorem eqZP {ops : Array Oper} {rest : List Oper} {Q : Exit -> Act -> World -> Prop} {a : Act} {w : World} {d : Option Tmp} {s r : Tmp} {u ty : TypeId} {pos : String} {af : Array Edge} {gd : Option (Nat × Bool)} {p : Nat}
   (hw : Region.wanted { dst := d, op := .binOp .eql 80 (.tmp s) (.tmp r) u, type := ty, pos := pos, after := af, guard := gd } (yielded ops a.tmps) = true) (hx : a.eval (.tmp s) = .agg (cells 16 (limb p))) (hy : a.eval (.tmp r) = .agg #[.int .u64 0, .int .u64 0, .int .u64 0, .int .u64 0, .int .u64 0, .int .u64 0, .int .u64 0, .int .u64 0, .int .u64 0, .int .u64 0, .int .u64 0, .int .u64 0, .int .u64 0, .int .u64 0, .int .u64 0, .int .u64 0]) (hp : p < bp 16) {v : Bool} (hv : IsB (decide (p = 0)) v)
   (h : wpList Tryd.prog ops Q rest (a.put d (.bool (v))) w) : wpList Tryd.prog ops Q ({ dst := d, op := .binOp .eql 80 (.tmp s) (.tmp r) u, type := ty, pos := pos, after := af, guard := gd } :: rest) a w :=
 wpList_run hw (op_eqW rfl hx (by rw [hy, zeros16, zero_limb, enc_zero]) hp (bp_pos 16) w) (by rw [show decide (p = 0) = v from hv]; exact h)
theorem neZP {ops : Array Oper} {rest : List Oper} {Q : Exit -> Act -> World -> Prop} {a : Act} {w : World} {d : Option Tmp} {s r : Tmp} {u ty : TypeId} {pos : String} {af : Array Edge} {gd : Option (Nat × Bool)} {p : Nat}
   (hw : Region.wanted { dst := d, op := .binOp .neq 80 (.tmp s) (.tmp r) u, type := ty, pos := pos, after := af, guard := gd } (yielded ops a.tmps) = true) (hx : a.eval (.tmp s) = .agg (cells 16 (limb p))) (hy : a.eval (.tmp r) = .agg #[.int .u64 0, .int .u64 0, .int .u64 0, .int .u64 0, .int .u64 0, .int .u64 0, .int .u64 0, .int .u64 0, .int .u64 0, .int .u64 0, .int .u64 0, .int .u64 0, .int .u64 0, .int .u64 0, .int .u64 0, .int .u64 0]) (hp : p < bp 16) {v : Bool} (hv : IsB (decide (p = 0)) v)
   (h : wpList Tryd.prog ops Q rest (a.put d (.bool (!v))) w) : wpList Tryd.prog ops Q ({ dst := d, op := .binOp .neq 80 (.tmp s) (.tmp r) u, type := ty, pos := pos, after := af, guard := gd } :: rest) a w :=
 wpList_run hw (op_neW rfl hx (by rw [hy, zeros16, zero_limb, enc_zero]) hp (bp_pos 16) w) (by rw [show decide (p = 0) = v from hv]; exact h)
set_option maxHeartbeats 400000 in
theorem amount_z {z : Int} (hz : InR z) (w : World) :
   Calls Tryd.prog 47 #[wideV (enc z)] w fun e w' => e = .returned (wideV z.natAbs) /\ Up w w' := by
 by_cases hs : z < 0
 ·have e := neg_abs hz hs
  rw [<- e]
  clear e
  have hdec : decide (z < 0) = true := by simpa using hs
  unfold wideV at *
  go_enter Tryd.func47, Tryd.ntmps47
  go_wp2_with (first | ((with_reducible apply ld_rowP undW infoW); exact rfl; exact rfl; exact gRow) | ((with_reducible apply st_rowP infoW); exact rfl; exact rfl; exact gRow) | ((with_reducible apply st_rowZ infoW); exact rfl; exact rfl; exact gRow) | (go_at_call 49; refine (minus_z hz _).mono ?_; rintro e w' ⟨rfl, hu⟩) | (go_at_call 58; refine (neg_z z _).mono ?_; rintro e w' ⟨rfl, hu⟩))
  exact bodyPost_ret (res1 rfl undW infoW _ _ rfl gRow) rfl ⟨rfl, gUp⟩
 ·have e : enc z = z.natAbs := (enc_nn hz (by omega)).1
  rw [<- e]
  clear e
  have hdec : decide (z < 0) = false := by simpa using hs
  unfold wideV at *
  go_enter Tryd.func47, Tryd.ntmps47
  go_wp2_with (first | ((with_reducible apply ld_rowP undW infoW); exact rfl; exact rfl; exact gRow) | ((with_reducible apply st_rowP infoW); exact rfl; exact rfl; exact gRow) | ((with_reducible apply st_rowZ infoW); exact rfl; exact rfl; exact gRow) | (go_at_call 49; refine (minus_z hz _).mono ?_; rintro e w' ⟨rfl, hu⟩))
  exact bodyPost_ret (res1 rfl undW infoW _ _ rfl gRow) rfl ⟨rfl, gUp⟩
theorem enc_nat {n : Nat} (h : n < bp 16) : enc (n : Int) = n := by
 unfold enc
 rw [<- Int.natCast_emod, Int.toNat_natCast, Nat.mod_eq_of_lt h]
theorem minus_e (z : Int) (w : World) :
   Calls Tryd.prog 49 #[wideV (enc z)] w fun e w' => e = .returned (.bool (decide (hb <= enc z))) /\ Up w w' := by
 refine (minus_any (enc z) w).mono ?_
 rintro e w' ⟨rfl, hu⟩
 refine ⟨ret_bool ?_, hu⟩
 rw [Bool.eq_iff_iff, decide_eq_true_iff, decide_eq_true_iff, top_iff (enc_lt z)]
def pm (neg : Bool) (n : Nat) : Int := if neg then -(n : Int) else n
theorem signed_ok {n : Nat} (hn : n < bp 16) (neg : Bool) : InR (pm neg n) ↔ (decide (hb <= enc (pm neg n)) = neg \/ n = 0) := by
 have h1 := hb_pos
 have h2 := bp16
 cases neg with
 | false =>
   have e : enc (pm false n) = n := enc_nat hn
   rw [e]
   simp only [pm, Bool.false_eq_true, if_false, decide_eq_false_iff_not]
   constructor
   ·intro h; have := h.out; omega
   ·intro h; exact InR.mk' (by omega)
 | true =>
   have e : n = 0 \/ enc (pm true n) = bp 16 - n := by
    by_cases h : n = 0
    ·exact .inl h
    ·right
     have h3 := enc_sub 0 (n : Int)
     rw [Int.zero_sub, enc_zero, enc_nat hn, Nat.zero_add, Nat.mod_eq_of_lt (by omega)] at h3
     exact h3.symm
   simp only [pm, if_true, decide_eq_true_iff] at *
   rcases e with e | e
   ·subst e
    simp only [or_true, iff_true]
    exact InR.mk' (by omega)
   ·rw [e]
    constructor
    ·intro h; have := h.out; omega
    ·intro h; exact InR.mk' (by omega)
def opt (z : Int) : Value := .tuple #[wideV (enc (if InR z then z else 0)), .bool (decide (InR z))]
theorem opt_yes {z : Int} (h : InR z) : opt z = .tuple #[wideV (enc z), .bool true] := by simp [opt, h]
theorem opt_no {z : Int} (h : ¬ InR z) : opt z = .tuple #[.agg (cells 16 (fun _ => 0)), .bool false] := by
 rw [zero_limb]
 simp [opt, h, wideV]
set_option maxHeartbeats 400000 in
theorem signed_any {n : Nat} (hn : n < bp 16) (neg : Bool) (w : World) :
   Calls Tryd.prog 48 #[wideV n, .bool neg] w fun e w' => e = .returned (opt (pm neg n)) /\ Up w w' := by
 have hok := signed_ok hn neg
 have hc := minus_e (pm neg n)
 have hneg := neg_z (n : Int)
 rw [enc_nat hn] at hneg
 have hx : neg = false -> wideV (enc (pm neg n)) = wideV n := fun h => by subst h; rw [show pm false n = (n : Int) from rfl, enc_nat hn]
 have hb0 := hn
 have HC := hid hc
 have HN := hid hneg
 clear hc hneg
 by_cases h : InR (pm neg n)
 ·rw [opt_yes h]
  have h1 := hok.1 h
  clear hok h
  cases neg with
  | false =>
    have e := hx rfl
    rw [e] at HC ⊢
    clear e hx
    unfold wideV at *
    by_cases h2 : hb <= enc (pm false n)
    ·have h3 : n = 0 := by simpa [h2] using h1
     have hd : decide (hb <= enc (pm false n)) = true := by simpa using h2
     have hd2 : IsB (decide (n = 0)) true := decide_eq_true h3
     rw [hd] at HC
     clear h1 h2 hd h3
     go_enter Tryd.func48, Tryd.ntmps48
     go_wp2_with (first | ((with_reducible apply ld_rowP undW infoW); exact rfl; exact rfl; exact gRow) | ((with_reducible apply st_rowP infoW); exact rfl; exact rfl; exact gRow) | ((with_reducible apply st_rowZ infoW); exact rfl; exact rfl; exact gRow) | ((with_reducible apply eqP); exact rfl; exact rfl; exact rfl; assumption; assumption; assumption) | ((with_reducible apply eqZP); exact rfl; exact rfl; exact rfl; assumption; assumption) | ((with_reducible apply neP); exact rfl; exact rfl; exact rfl; assumption; assumption; assumption) | ((with_reducible apply neZP); exact rfl; exact rfl; exact rfl; assumption; assumption) | (go_at_call 49; refine (HC.out _).mono ?_; rintro e w' ⟨rfl, hu⟩))
     exact bodyPost_ret (res2 rfl undW infoW _ _ rfl gRow) rfl ⟨rfl, gUp⟩
    ·have hd : decide (hb <= enc (pm false n)) = false := by simpa using h2
     rw [hd] at HC
     clear h1 h2 hd
     go_enter Tryd.func48, Tryd.ntmps48
     go_wp2_with (first | ((with_reducible apply ld_rowP undW infoW); exact rfl; exact rfl; exact gRow) | ((with_reducible apply st_rowP infoW); exact rfl; exact rfl; exact gRow) | ((with_reducible apply st_rowZ infoW); exact rfl; exact rfl; exact gRow) | ((with_reducible apply eqP); exact rfl; exact rfl; exact rfl; assumption; assumption; assumption) | ((with_reducible apply eqZP); exact rfl; exact rfl; exact rfl; assumption; assumption) | ((with_reducible apply neP); exact rfl; exact rfl; exact rfl; assumption; assumption; assumption) | ((with_reducible apply neZP); exact rfl; exact rfl; exact rfl; assumption; assumption) | (go_at_call 49; refine (HC.out _).mono ?_; rintro e w' ⟨rfl, hu⟩))
     exact bodyPost_ret (res2 rfl undW infoW _ _ rfl gRow) rfl ⟨rfl, gUp⟩
  | true =>
    have e : wideV (enc (-(n : Int))) = wideV (enc (pm true n)) := rfl
    clear hx
    by_cases h2 : hb <= enc (pm true n)
    ·have hd : decide (hb <= enc (pm true n)) = true := by simpa using h2
     rw [hd] at HC
     rw [e] at HN
     clear h1 h2 hd e
     unfold wideV at *
     go_enter Tryd.func48, Tryd.ntmps48
     go_wp2_with (first | ((with_reducible apply ld_rowP undW infoW); exact rfl; exact rfl; exact gRow) | ((with_reducible apply st_rowP infoW); exact rfl; exact rfl; exact gRow) | ((with_reducible apply st_rowZ infoW); exact rfl; exact rfl; exact gRow) | ((with_reducible apply eqP); exact rfl; exact rfl; exact rfl; assumption; assumption; assumption) | ((with_reducible apply eqZP); exact rfl; exact rfl; exact rfl; assumption; assumption) | ((with_reducible apply neP); exact rfl; exact rfl; exact rfl; assumption; assumption; assumption) | ((with_reducible apply neZP); exact rfl; exact rfl; exact rfl; assumption; assumption) | (go_at_call 49; refine (HC.out _).mono ?_; rintro e w' ⟨rfl, hu⟩) | (go_at_call 58; refine (HN.out _).mono ?_; rintro e w' ⟨rfl, hu⟩))
     exact bodyPost_ret (res2 rfl undW infoW _ _ rfl gRow) rfl ⟨rfl, gUp⟩
    ·have h3 : n = 0 := by simpa [h2] using h1
     have hd : decide (hb <= enc (pm true n)) = false := by simpa using h2
     have hd2 : IsB (decide (n = 0)) true := decide_eq_true h3
     rw [hd] at HC
     rw [e] at HN
     clear h1 h2 hd e h3
     unfold wideV at *
     go_enter Tryd.func48, Tryd.ntmps48
     go_wp2_with (first | ((with_reducible apply ld_rowP undW infoW); exact rfl; exact rfl; exact gRow) | ((with_reducible apply st_rowP infoW); exact rfl; exact rfl; exact gRow) | ((with_reducible apply st_rowZ infoW); exact rfl; exact rfl; exact gRow) | ((with_reducible apply eqP); exact rfl; exact rfl; exact rfl; assumption; assumption; assumption) | ((with_reducible apply eqZP); exact rfl; exact rfl; exact rfl; assumption; assumption) | ((with_reducible apply neP); exact rfl; exact rfl; exact rfl; assumption; assumption; assumption) | ((with_reducible apply neZP); exact rfl; exact rfl; exact rfl; assumption; assumption) | (go_at_call 49; refine (HC.out _).mono ?_; rintro e w' ⟨rfl, hu⟩) | (go_at_call 58; refine (HN.out _).mono ?_; rintro e w' ⟨rfl, hu⟩))
     exact bodyPost_ret (res2 rfl undW infoW _ _ rfl gRow) rfl ⟨rfl, gUp⟩
 ·rw [opt_no h]
  have h1 : ¬ (decide (hb <= enc (pm neg n)) = neg \/ n = 0) := fun h' => h (hok.2 h')
  have hd2 : IsB (decide (n = 0)) false := decide_eq_false fun e => h1 (.inr e)
  have hd : decide (hb <= enc (pm neg n)) = !neg := by
   cases neg <;> simp_all
  rw [hd] at HC
  clear hok h hd h1
  cases neg with
  | false =>
    have e := hx rfl
    rw [e] at HC
    clear e hx
    unfold wideV at *
    go_enter Tryd.func48, Tryd.ntmps48
    go_wp2_with (first | ((with_reducible apply ld_rowP undW infoW); exact rfl; exact rfl; exact gRow) | ((with_reducible apply st_rowP infoW); exact rfl; exact rfl; exact gRow) | ((with_reducible apply st_rowZ infoW); exact rfl; exact rfl; exact gRow) | ((with_reducible apply eqP); exact rfl; exact rfl; exact rfl; assumption; assumption; assumption) | ((with_reducible apply eqZP); exact rfl; exact rfl; exact rfl; assumption; assumption) | ((with_reducible apply neP); exact rfl; exact rfl; exact rfl; assumption; assumption; assumption) | ((with_reducible apply neZP); exact rfl; exact rfl; exact rfl; assumption; assumption) | (go_at_call 49; refine (HC.out _).mono ?_; rintro e w' ⟨rfl, hu⟩) | (go_at_call 58; refine (HN.out _).mono ?_; rintro e w' ⟨rfl, hu⟩))
    exact bodyPost_ret (res2 rfl undW infoW _ _ rfl gRow) rfl ⟨rfl, gUp⟩
  | true =>
    have e : wideV (enc (-(n : Int))) = wideV (enc (pm true n)) := rfl
    rw [e] at HN
    clear e hx
    unfold wideV at *
    go_enter Tryd.func48, Tryd.ntmps48
    go_wp2_with (first | ((with_reducible apply ld_rowP undW infoW); exact rfl; exact rfl; exact gRow) | ((with_reducible apply st_rowP infoW); exact rfl; exact rfl; exact gRow) | ((with_reducible apply st_rowZ infoW); exact rfl; exact rfl; exact gRow) | ((with_reducible apply eqP); exact rfl; exact rfl; exact rfl; assumption; assumption; assumption) | ((with_reducible apply eqZP); exact rfl; exact rfl; exact rfl; assumption; assumption) | ((with_reducible apply neP); exact rfl; exact rfl; exact rfl; assumption; assumption; assumption) | ((with_reducible apply neZP); exact rfl; exact rfl; exact rfl; assumption; assumption) | (go_at_call 49; refine (HC.out _).mono ?_; rintro e w' ⟨rfl, hu⟩) | (go_at_call 58; refine (HN.out _).mono ?_; rintro e w' ⟨rfl, hu⟩))
    exact bodyPost_ret (res2 rfl undW infoW _ _ rfl gRow) rfl ⟨rfl, gUp⟩
set_option maxHeartbeats 400000 in
theorem order_any (x y : Nat) (hx : x < bp 16) (hy : y < bp 16) (w : World) :
   Calls Tryd.prog 63 #[wideV x, wideV y] w fun e w' => e = .returned (.int .i64 (ordZ x y)) /\ Up w w' := by
 unfold wideV
 go_enter Tryd.func63, Tryd.ntmps63
 go_wp2
 go_loopw [5] (fun i wr => ∃ m : Nat, m <= 16 /\ i = .int .i64 ((m : Int) - 1) /\ (∀ i, m <= i -> i < 16 -> limb x i = limb y i) /\
    Row wr w.heap.size 80 16 (limb x) /\ Row wr (w.heap.size + 1) 80 16 (limb y) /\ Below w.heap.size w wr)
  (fun i _ => (intOf i + 1).toNat)
 case atStart =>
  refine ⟨16, by omega, rfl, fun i _ _ => by omega, (row_new _ 16 (limb x) _ rfl rfl).up (Up.alloc _ _), (row_new _ 16 (limb y) _ (by simp) rfl), ?_⟩
  exact (((Below.refl _ _).alloc (Nat.le_refl _) _).alloc (by simp) _)
 case round =>
  obtain ⟨m, hm, rfl, hgx, hX, hY, hB⟩ := hrel
  have Hgx := hid hgx
  clear hgx
  by_cases hlt : 0 < m
  ·obtain ⟨k, rfl⟩ : ∃ k, m = k + 1 := ⟨m - 1, by omega⟩
   have e : (((k + 1 : Nat) : Int) - 1) = (k : Int) := by omega
   rw [e]
   clear e
   have hcx := hX.cell k (by omega)
   have hcy := hY.cell k (by omega)
   have hl1 := limb_lt x k
   have hl2 := limb_lt y k
   have hlx : (∀ i, i < 16 -> limb x i < 18446744073709551616) := fun i _ => limb_lt x i
   have hly : (∀ i, i < 16 -> limb y i < 18446744073709551616) := fun i _ => limb_lt y i
   have sx := sumL_limb x 16
   have sy := sumL_limb y 16
   rw [Nat.mod_eq_of_lt hx] at sx
   rw [Nat.mod_eq_of_lt hy] at sy
   have h1 : limb x k < limb y k -> ordZ x y = -1 := fun h => by
    have := sumL_lt_of hlx (show k < 16 by omega) (fun j h1 h2 => Hgx.out j (by omega) h2) h
    rw [sx, sy] at this
    simp [ordZ, this]
   have h2 : limb y k < limb x k -> ordZ x y = 1 := fun h => by
    have := sumL_lt_of hly (show k < 16 by omega) (fun j h1 h2 => (Hgx.out j (by omega) h2).symm) h
    rw [sx, sy] at this
    have h3 : ¬ x < y := by omega
    simp [ordZ, this, h3]
   have H1 := hid h1
   have H2 := hid h2
   have hE : limb x k = limb y k -> ∀ i, k <= i -> i < 16 -> limb x i = limb y i := fun h i h1 h2 => by
    by_cases e : i = k
    ·rw [e]; exact h
    ·exact Hgx.out i (by omega) h2
   have HE := hid hE
   clear hlx hly sx sy h1 h2 hE
   generalize limb x k = a at *
   generalize limb y k = b at *
   rcases Nat.lt_trichotomy a b with h | h | h
   ·go_wp2
    go_quiet (fail)
    go_wp2
    go_ret
    exact ⟨ret_int (H1.out h).symm, below_drewN hB _⟩
   ·subst h
    have HF := hid (HE.out rfl)
    clear HE
    go_wp2
    go_quiet (fail)
    go_wp2
    go_quiet (fail)
    go_wp2
    go_roundw
    case rel => exact ⟨k, by omega, by go_num, HF.out, hX, hY, below_drewN hB _⟩
    case measure => simp [intOf] <;> omega
   ·have h' : ¬ a < b := by omega
    go_wp2
    go_quiet (fail)
    go_wp2
    go_quiet (fail)
    go_wp2
    go_ret
    exact ⟨ret_int (H2.out h).symm, below_drewN (below_drewN hB _) _⟩
  ·obtain rfl : m = 0 := by omega
   have h0 : x = y := by
    rw [<- Nat.mod_eq_of_lt hx, <- Nat.mod_eq_of_lt hy, <- sumL_limb, <- sumL_limb]
    exact sumL_congr fun i hi => Hgx.out i (by omega) hi
   have H0 := hid h0
   clear h0
   go_wp2
   go_ret
   exact ⟨ret_int (by simp [ordZ, H0.out]), hB⟩
set_option maxHeartbeats 400000 in
theorem length_any (x : Nat) (w : World) :
   Calls Tryd.prog 55 #[wideV x] w fun e w' => e = .returned (.int .i64 (lenL (limb x) 16 : Nat)) /\ Up w w' := by
 unfold wideV
 go_enter Tryd.func55, Tryd.ntmps55
 go_wp2
 go_loopw [3] (fun i wr => ∃ m : Nat, m <= 16 /\ i = .int .i64 m /\ (∀ i, m <= i -> i < 16 -> limb x i = 0) /\
    Row wr w.heap.size 80 16 (limb x) /\ Below w.heap.size w wr)
  (fun i _ => (intOf i).toNat)
 case atStart => exact ⟨16, by omega, rfl, fun i _ _ => by omega, gRow, gUp⟩
 case round =>
  obtain ⟨m, hm, rfl, hg, hX, hB⟩ := hrel
  have Hg := hid hg
  clear hg
  by_cases hlt : 0 < m
  ·obtain ⟨k, rfl⟩ : ∃ k, m = k + 1 := ⟨m - 1, by omega⟩
   have hc := hX.cell k (by omega)
   have hl := limb_lt x k
   have hA : limb x k = 0 -> ∀ i, k <= i -> i < 16 -> limb x i = 0 := fun h i h1 h2 => by
    by_cases e : i = k
    ·rw [e]; exact h
    ·exact Hg.out i (by omega) h2
   have hE : limb x k ≠ 0 -> lenL (limb x) 16 = k + 1 := fun h => lenL_of _ hm (fun i h1 h2 => Hg.out i h1 h2) (.inr (by simpa using h))
   have HA := hid hA
   have HE := hid hE
   clear hA hE
   generalize limb x k = a at *
   by_cases h0 : a = 0
   ·have HF := hid (HA.out h0)
    subst h0
    clear HA HE
    go_wp2
    go_roundw
    case rel => exact ⟨k, by omega, by go_num, HF.out, hX, hB⟩
    case measure => simp [intOf]
   ·have HF := hid (HE.out h0)
    have hb : ((a : Int) == 0) = false := by simpa using h0
    clear HA HE h0
    go_wp2
    go_ret
    exact ⟨ret_int (by rw [HF.out]; first | done | go_num), hB⟩
  ·obtain rfl : m = 0 := by omega
   have HF := hid (lenL_of (limb x) (Nat.zero_le 16) (fun i h1 h2 => Hg.out i h1 h2) (.inl rfl))
   go_wp2
   go_ret
   exact ⟨ret_int (by rw [HF.out]; first | done | rfl), hB⟩
end Go.Proofs.YtbmlkimgjkdaiaaDoor
namespace Go.Proofs
open Go.Shelf
def Tryd.lays134_ren : Go.Shelf.Ren := ⟨fun | 134 => 67 | 129 => 72 | n => n, fun | 53 => 56 | 3 => 3 | 4 => 4 | 46 => 105 | 5 => 5 | 9 => 9 | n => n, fun | n => n⟩
theorem Tryd.lays134 : Go.Proofs.Lays.n134 Tryd.prog Tryd.lays134_ren := {
 mixed := by kernel_rfl
 f129 := Tryd.func72.trans (congrArg some (by kernel_rfl))
 f134 := Tryd.func67.trans (congrArg some (by kernel_rfl))
 t3 := Tryd.underlying3
 a3 := Tryd.isAgg3
 z3 := Tryd.sizeOf3
 v3 := Tryd.zeroValue3
 t4 := Tryd.underlying4
 a4 := Tryd.isAgg4
 z4 := Tryd.sizeOf4
 v4 := Tryd.zeroValue4
 t5 := Tryd.underlying5
 a5 := Tryd.isAgg5
 z5 := Tryd.sizeOf5
 v5 := Tryd.zeroValue5
 t9 := Tryd.underlying9
 a9 := Tryd.isAgg9
 z9 := Tryd.sizeOf9
 v9 := Tryd.zeroValue9
 t46 := Tryd.underlying105
 a46 := Tryd.isAgg105
 z46 := Tryd.sizeOf105
 v46 := Tryd.zeroValue105
 t53 := Tryd.underlying56
 a53 := Tryd.isAgg56
 z53 := Tryd.sizeOf56
 v53 := Tryd.zeroValue56 }
theorem Tryd.bits_LeadingZeros64 (x : Int) (w : World) (h0 : 0 <= x) (h1 : x <= 18446744073709551615) :
   Calls Tryd.prog 67 #[.int .u64 x] w fun e w' => e = .returned (.int .i64 (64 - (Lib.bitLen x.toNat : Int))) /\ w' = w := Any.bits_LeadingZeros64 Tryd.lays134 x w h0 h1
def Tryd.lays264_ren : Go.Shelf.Ren := ⟨fun | 264 => 61 | n => n, fun | 53 => 56 | 46 => 105 | n => n, fun | n => n⟩
theorem Tryd.lays264 : Go.Proofs.Lays.n264 Tryd.prog Tryd.lays264_ren := {
 mixed := by kernel_rfl
 f264 := Tryd.func61.trans (congrArg some (by kernel_rfl))
 t46 := Tryd.underlying105
 a46 := Tryd.isAgg105
 z46 := Tryd.sizeOf105
 v46 := Tryd.zeroValue105
 t53 := Tryd.underlying56
 a53 := Tryd.isAgg56
 z53 := Tryd.sizeOf56
 v53 := Tryd.zeroValue56 }
open Go.RowKit Go.Lib in
theorem Tryd.bits_Mul64 (x y : Nat) (hx : x < 18446744073709551616) (hy : y < 18446744073709551616) (w : World) :
   Calls Tryd.prog 61 #[.int .u64 x, .int .u64 y] w fun e w' => e = .returned (.tuple #[.int .u64 ((x * y / 18446744073709551616 : Nat) : Int), .int .u64 ((x * y % 18446744073709551616 : Nat) : Int)]) /\ w' = w := Any.bits_Mul64 Tryd.lays264 x y hx hy w
end Go.Proofs
namespace Go.Proofs.YtbmlkimgjkdaiaaDoor
open Go Go.RowKit
set_option maxRecDepth 100000
theorem bitLen_spec {x : Nat} (h : x < 18446744073709551616) (h0 : x ≠ 0) : 1 <= Lib.bitLen x /\ 2 ^ (Lib.bitLen x - 1) <= x /\ x < 2 ^ Lib.bitLen x /\ Lib.bitLen x <= 64 := by
 have h1 := Lib.bitLenAux_bounds 64 x h h0
 refine ⟨h1.1, h1.2.1, h1.2.2, ?_⟩
 have h2 : 2 ^ (Lib.bitLenAux 64 x - 1) < 2 ^ 64 := by have := h1.2.1; omega
 have := (Nat.pow_lt_pow_iff_right (show 1 < 2 by decide)).1 h2
 have h3 := h1.1
 unfold Lib.bitLen
 omega
def sgn (z : Int) : Int := if z < 0 then -1 else if z = 0 then 0 else 1
theorem enc_eq_zero {z : Int} (hz : InR z) : enc z = 0 ↔ z = 0 := by
 constructor
 ·intro h
  refine enc_inj hz (InR.mk' ?_) (h.trans enc_zero.symm)
  have := hb_pos; omega
 ·intro h; rw [h, enc_zero]
set_option maxHeartbeats 400000 in
theorem sign_z {z : Int} (hz : InR z) (w : World) :
   Calls Tryd.prog 50 #[wideV (enc z)] w fun e w' => e = .returned (.int .i64 (sgn z)) /\ Up w w' := by
 have HM := hid (fun w => minus_z hz w)
 have hlt := enc_lt z
 have hq := enc_eq_zero hz
 by_cases hs : z < 0
 ·have e : sgn z = -1 := by simp [sgn, hs]
  have hd : decide (z < 0) = true := by simpa using hs
  rw [hd] at HM
  rw [e]
  clear e hd hs hq
  unfold wideV at *
  go_enter Tryd.func50, Tryd.ntmps50
  go_wp2_with (first | ((with_reducible apply ld_rowP undW infoW); exact rfl; exact rfl; exact gRow) | ((with_reducible apply eqP); exact rfl; exact rfl; exact rfl; assumption; assumption; assumption) | ((with_reducible apply eqZP); exact rfl; exact rfl; exact rfl; assumption; assumption) | ((with_reducible apply neP); exact rfl; exact rfl; exact rfl; assumption; assumption; assumption) | ((with_reducible apply neZP); exact rfl; exact rfl; exact rfl; assumption; assumption) | (go_at_call 49; refine (HM.out _).mono ?_; rintro e w' ⟨rfl, hu⟩))
  go_ret
  exact ⟨rfl, gUp⟩
 ·have hd : decide (z < 0) = false := by simpa using hs
  rw [hd] at HM
  by_cases h0 : z = 0
  ·have e : sgn z = 0 := by simp [sgn, h0]
   have hd2 : IsB (decide (enc z = 0)) true := decide_eq_true (hq.2 h0)
   rw [e]
   clear e hd hs hq h0
   unfold wideV at *
   go_enter Tryd.func50, Tryd.ntmps50
   go_wp2_with (first | ((with_reducible apply ld_rowP undW infoW); exact rfl; exact rfl; exact gRow) | ((with_reducible apply eqP); exact rfl; exact rfl; exact rfl; assumption; assumption; assumption) | ((with_reducible apply eqZP); exact rfl; exact rfl; exact rfl; assumption; assumption) | ((with_reducible apply neP); exact rfl; exact rfl; exact rfl; assumption; assumption; assumption) | ((with_reducible apply neZP); exact rfl; exact rfl; exact rfl; assumption; assumption) | (go_at_call 49; refine (HM.out _).mono ?_; rintro e w' ⟨rfl, hu⟩))
   go_ret
   exact ⟨rfl, gUp⟩
  ·have e : sgn z = 1 := by simp [sgn, h0, hs]
   have hd2 : IsB (decide (enc z = 0)) false := decide_eq_false fun h => h0 (hq.1 h)
   rw [e]
   clear e hd hs hq h0
   unfold wideV at *
   go_enter Tryd.func50, Tryd.ntmps50
   go_wp2_with (first | ((with_reducible apply ld_rowP undW infoW); exact rfl; exact rfl; exact gRow) | ((with_reducible apply eqP); exact rfl; exact rfl; exact rfl; assumption; assumption; assumption) | ((with_reducible apply eqZP); exact rfl; exact rfl; exact rfl; assumption; assumption) | ((with_reducible apply neP); exact rfl; exact rfl; exact rfl; assumption; assumption; assumption) | ((with_reducible apply neZP); exact rfl; exact rfl; exact rfl; assumption; assumption) | (go_at_call 49; refine (HM.out _).mono ?_; rintro e w' ⟨rfl, hu⟩))
   go_ret
   exact ⟨rfl, gUp⟩
theorem of_sum (v : Int) (h1 : -9223372036854775808 <= v) (h2 : v < 9223372036854775808) :
   sumL (upd (fun _ => if v < 0 then 18446744073709551615 else 0) 0 (v % 18446744073709551616).toNat) 16 = enc v := by
 have hs : ∀ (A V n : Nat), 1 <= n -> sumL (upd (fun _ => A) 0 V) n * 18446744073709551615 = V * 18446744073709551615 + A * (bp n - 18446744073709551616) := by
  intro A V n hn
  obtain ⟨k, rfl⟩ : ∃ k, n = k + 1 := ⟨n - 1, by omega⟩
  clear hn
  induction k with
  | zero => rw [sumL_succ, sumL_zero, bp_zero, upd_same, bp_succ, bp_zero]; simp
  | succ k ih =>
    have h : 18446744073709551616 <= bp (k + 1) := by rw [bp_succ]; have := bp_pos k; omega
    have e : bp (k + 1 + 1) - 18446744073709551616 = (bp (k + 1) - 18446744073709551616) + bp (k + 1) * 18446744073709551615 := by rw [bp_succ (k + 1)]; omega
    rw [sumL_succ, Nat.add_mul, ih, upd_other _ _ _ (by omega), e, Nat.mul_add, Nat.mul_assoc, Nat.add_assoc]
 have h3 := bp16
 have hb6 : 18446744073709551616 <= bp 16 := by rw [bp_succ]; have := bp_pos 15; omega
 have hbb : 9223372036854775808 <= hb := by omega
 by_cases h0 : v < 0
 ·have e := enc_neg (z := v) (InR.mk' (by omega)) h0
  rw [if_pos h0, e.1]
  have e2 : (v % 18446744073709551616).toNat = 18446744073709551616 - v.natAbs := by omega
  rw [e2]
  have h : sumL (upd (fun _ => 18446744073709551615) 0 (18446744073709551616 - v.natAbs)) 16 * 18446744073709551615 = (18446744073709551616 - v.natAbs) * 18446744073709551615 + 18446744073709551615 * (bp 16 - 18446744073709551616) := hs _ _ 16 (by decide)
  generalize sumL _ 16 = S at *
  omega
 ·have e := enc_nn (z := v) (InR.mk' (by omega)) (by omega)
  rw [if_neg h0, e.1]
  have h : sumL (upd (fun _ => 0) 0 (v % 18446744073709551616).toNat) 16 * 18446744073709551615 = (v % 18446744073709551616).toNat * 18446744073709551615 + 0 * (bp 16 - 18446744073709551616) := hs _ _ 16 (by decide)
  generalize sumL _ 16 = S at *
  omega
set_option maxHeartbeats 400000 in
theorem of_any (v : Int) (h1 : -9223372036854775808 <= v) (h2 : v < 9223372036854775808) (w : World) :
   Calls Tryd.prog 34 #[.int .i64 v] w fun e w' => e = .returned (wideV (enc v)) /\ Up w w' := by
 have hsum := of_sum v h1 h2
 obtain ⟨A, eA, hA, HA⟩ : ∃ A : Nat, IntKind.u64.wrap (v / 9223372036854775808) = (A : Int) /\ A < 18446744073709551616 /\ A = if v < 0 then 18446744073709551615 else 0 := by
  refine ⟨_, ?_, ?_, rfl⟩
  ·rw [IntKind.wrap_u64]; split <;> omega
  ·split <;> omega
 obtain ⟨V, eV, hV, HV⟩ : ∃ V : Nat, IntKind.u64.wrap v = (V : Int) /\ V < 18446744073709551616 /\ V = (v % 18446744073709551616).toNat := by
  refine ⟨_, ?_, ?_, rfl⟩
  ·rw [IntKind.wrap_u64]; omega
  ·omega
 rw [<- HA, <- HV] at hsum
 have HS := hid hsum
 clear hsum HA HV
 generalize enc v = E at *
 go_enter Tryd.func34, Tryd.ntmps34
 go_wp2
 go_loopw [9] (fun i wr => ∃ k : Nat, k <= 16 /\ i = .int .i64 k /\ Row wr w.heap.size 80 16 (fun _ => 0) /\ Row wr (w.heap.size + 1) 80 16 (fun i => if i < k then A else 0) /\ Below w.heap.size w wr)
  (fun i _ => 16 - (intOf i).toNat)
 case atStart => exact ⟨0, by omega, rfl, gRow, Row.congr (f := fun _ => 0) gRow (by simp), gUp⟩
 case round =>
  obtain ⟨k, hk, rfl, hR, hX, hB⟩ := hrel
  by_cases hlt : k < 16
  ·have hc := hX.cell k hlt
   have hf := hX.frozen k
   have hX2 := hX.set k A
   have hR2 := hR.other ⟨w.heap.size + 1, k, none⟩ (.int .u64 (A : Nat)) (by simp)
   have hB2 := hB.setCell (p := ⟨w.heap.size + 1, k, none⟩) (by simp) (.int .u64 (A : Nat))
   go_wp2
   go_roundw
   case rel =>
    refine ⟨k + 1, by omega, by go_num, hR2, Row.congr hX2 fun i hi => ?_, hB2⟩
    unfold upd
    split
    ·exact (if_pos (by omega)).symm
    ·show (if i < k then A else 0) = if i < k + 1 then A else 0
     split
     ·rw [if_pos (by omega)]
     ·rw [if_neg (by omega)]
   case measure => simp [intOf] <;> omega
  ·obtain rfl : k = 16 := by omega
   have hc := hX.cell 0 (by omega)
   have hf := hX.frozen 0
   have hX2 : Row (wr.setCell ⟨w.heap.size + 1, 0, none⟩ (.int .u64 (V : Nat))) (w.heap.size + 1) 80 16 (upd (fun _ => A) 0 V) := Row.congr (hX.set 0 V) fun i hi => by
    unfold upd
    split
    ·rfl
    ·exact if_pos hi
   have hR2 := hR.other ⟨w.heap.size + 1, 0, none⟩ (.int .u64 (V : Nat)) (by simp)
   have hB2 := hB.setCell (p := ⟨w.heap.size + 1, 0, none⟩) (by simp) (.int .u64 (V : Nat))
   go_wp2_with (first | ((with_reducible apply ld_rowP undW infoW); exact rfl; exact rfl; exact gRow) | ((with_reducible apply st_rowP infoW); exact rfl; exact rfl; exact gRow) | ((with_reducible apply st_rowZ infoW); exact rfl; exact rfl; exact gRow))
   exact bodyPost_ret (res1 rfl undW infoW _ _ rfl gRow) rfl ⟨by
    rw [wide_of (upd_lt (fun _ _ => hA) hV), HS.out], gUp⟩
theorem op_neB {o : Oper} {a : Act} {x y : Operand} {u : TypeId} (ho : o.op = .binOp .neq 80 x y u) {p q : Nat} (hx : a.eval x = .agg (cells 16 (limb p))) (hy : a.eval y = .agg (cells 16 (limb q))) (hp : p < bp 16) (hq : q < bp 16) {b : Bool} (hv : IsB (decide (p = q)) b) (w : World) :
   (execOp a.eval o).run Tryd.prog w = .ok (.value (.bool (!b))) w := by
 rw [<- show decide (p = q) = b from hv]
 exact op_neW ho hx hy hp hq w
def i64V (z : Int) : Value := .tuple #[.int .i64 (if -9223372036854775808 <= z /\ z < 9223372036854775808 then z else 0), .bool (decide (-9223372036854775808 <= z /\ z < 9223372036854775808))]
theorem limb0 (x : Nat) : limb x 0 = x % 18446744073709551616 := by unfold limb; rw [bp_zero, Nat.div_one]
theorem enc_mod (z : Int) : ((enc z : Nat) : Int) % 18446744073709551616 = z % 18446744073709551616 := by
 unfold enc
 have h := bp_pos 16
 have h2 : ((bp 16 : Nat) : Int) = (bp 15 : Nat) * 18446744073709551616 := by rw [bp_succ]; omega
 rw [Int.toNat_of_nonneg (Int.emod_nonneg _ (by omega)), h2]
 exact Int.emod_emod_of_dvd _ ⟨_, Int.mul_comm _ _⟩
set_option maxHeartbeats 400000 in
theorem int64_z {z : Int} (hz : InR z) (w : World) :
   Calls Tryd.prog 36 #[wideV (enc z)] w fun e w' => e = .returned (i64V z) /\ Up w w' := by
 have hl := limb0 (enc z)
 have hm := enc_mod z
 have hlt := limb_lt (enc z) 0
 obtain ⟨v, hv1, hv2, hv3, hvm⟩ : ∃ v : Int, IntKind.i64.wrap (limb (enc z) 0 : Nat) = v /\ -9223372036854775808 <= v /\ v < 9223372036854775808 /\ v % 18446744073709551616 = z % 18446744073709551616 := by
  refine ⟨_, rfl, ?_⟩
  rw [hl]
  generalize enc z = e at *
  rw [IntKind.wrap_i64]
  omega
 have hvR : InR v := InR.mk' (by
  have h3 := bp16
  have : 18446744073709551616 <= bp 16 := by rw [bp_succ]; have := bp_pos 15; omega
  omega)
 have hiff : enc z = enc v ↔ (-9223372036854775808 <= z /\ z < 9223372036854775808) :=
  ⟨fun h => by rw [enc_inj hz hvR h]; exact ⟨hv2, hv3⟩, fun h => by rw [show z = v by omega]⟩
 have hp := enc_lt z
 have hq := enc_lt v
 have HO := hid (fun w => of_any v hv2 hv3 w)
 clear hl hm
 by_cases hr : -9223372036854775808 <= z /\ z < 9223372036854775808
 ·have e : i64V z = .tuple #[.int .i64 v, .bool true] := by
   have : z = v := by omega
   unfold i64V
   rw [if_pos hr, decide_eq_true hr, this]
  rw [e]
  have hd : IsB (decide (enc z = enc v)) true := decide_eq_true (hiff.2 hr)
  clear hr hiff hvm hvR e hv2 hv3
  unfold wideV at *
  go_enter Tryd.func36, Tryd.ntmps36
  have hc := cells_get 16 (limb (enc z)) 0 (by decide)
  go_wp2
  refine opU (S := (fun wq => Row wq w.heap.size 80 16 (limb (enc z)) /\ Below w.heap.size w wq)) (req := (fun _ => true)) (fun _ _ h hu => ⟨(h.1).up hu, below_up (h.2) hu⟩) ⟨gRow, gUp⟩ (fun wS hSS hSu => ?_)
  have ⟨hS1, hSB⟩ := hSS
  refine tkT 0 (some 8) rfl hSu hSS ?_ (hy := fun w' hSw => run_ld undW infoW _ rfl _ rfl hSw.1)
  refine tkP 1 (some 9) hSu ?_
  refine tkC 2 (some 10) rfl hSu hSS ?_ (hy := fun w' hSw => (HO.out _))
  refine tkT 3 (some 11) rfl hSu hSS ?_ (hy := fun w' hSw => op_neB rfl rfl rfl hp hq hd _)
  refine wpAnyU_done (by kernel_rfl) (fun wE huE => ?_) _
  have ⟨hS1, hSB⟩ := hSu.out _ _ hSS huE
  clear huE hSS
  go_wp2
  go_ret2
  exact ⟨rfl, hSB⟩
 ·have e : i64V z = .tuple #[.int .i64 0, .bool false] := by
   unfold i64V
   rw [if_neg hr, decide_eq_false hr]
  rw [e]
  have hd : IsB (decide (enc z = enc v)) false := decide_eq_false fun h => hr (hiff.1 h)
  clear hr hiff hvm hvR e hv2 hv3
  unfold wideV at *
  go_enter Tryd.func36, Tryd.ntmps36
  have hc := cells_get 16 (limb (enc z)) 0 (by decide)
  go_wp2
  refine opU (S := (fun wq => Row wq w.heap.size 80 16 (limb (enc z)) /\ Below w.heap.size w wq)) (req := (fun _ => true)) (fun _ _ h hu => ⟨(h.1).up hu, below_up (h.2) hu⟩) ⟨gRow, gUp⟩ (fun wS hSS hSu => ?_)
  have ⟨hS1, hSB⟩ := hSS
  refine tkT 0 (some 8) rfl hSu hSS ?_ (hy := fun w' hSw => run_ld undW infoW _ rfl _ rfl hSw.1)
  refine tkP 1 (some 9) hSu ?_
  refine tkC 2 (some 10) rfl hSu hSS ?_ (hy := fun w' hSw => (HO.out _))
  refine tkT 3 (some 11) rfl hSu hSS ?_ (hy := fun w' hSw => op_neB rfl rfl rfl hp hq hd _)
  refine wpAnyU_done (by kernel_rfl) (fun wE huE => ?_) _
  have ⟨hS1, hSB⟩ := hSu.out _ _ hSS huE
  clear huE hSS
  go_wp2
  go_ret2
  exact ⟨rfl, hSB⟩
theorem plus_ok {a b : Int} (ha : InR a) (hb' : InR b) : ((a < 0 ↔ b < 0) -> ((decide (hb <= enc (a + b)) = decide (a < 0)) ↔ InR (a + b))) /\ (¬ (a < 0 ↔ b < 0) -> InR (a + b)) := by
 have h1 := ha.out
 have h2 := hb'.out
 have h3 := bp16
 have h4 := hb_pos
 constructor
 ·intro h
  by_cases a0 : a < 0
  ·have e : enc (a + b) = if a + b = -(bp 16 : Int) then 0 else (a + b + bp 16).toNat := by
    unfold enc
    split
    ·rename_i e; rw [e, Int.neg_emod_self]; rfl
    ·rw [<- Int.add_emod_right, Int.emod_eq_of_lt (by omega) (by omega)]
   rw [e, decide_eq_true a0, decide_eq_true_iff]
   constructor
   ·intro h5
    refine InR.mk' ?_
    split at h5 <;> omega
   ·intro h5
    have := h5.out
    split <;> omega
  ·have e : enc (a + b) = (a + b).toNat := by
    unfold enc
    rw [Int.emod_eq_of_lt (by omega) (by omega)]
   rw [e, decide_eq_false a0, decide_eq_false_iff_not]
   constructor
   ·intro h5; exact InR.mk' (by omega)
   ·intro h5; have := h5.out; omega
 ·intro h
  exact InR.mk' (by omega)
set_option maxHeartbeats 1000000 in
theorem add_z {a b : Int} (ha : InR a) (hb' : InR b) (w : World) :
   Calls Tryd.prog 51 #[wideV (enc a), wideV (enc b)] w fun e w' => e = .returned (opt (a + b)) /\ Up w w' := by
 have HA := hid (fun w => minus_z ha w)
 have HB := hid (fun w => minus_z hb' w)
 have HM := hid (fun w => minus_e (a + b) w)
 have HP := hid (fun w => plus_z a b w)
 obtain ⟨hk1, hk2⟩ := plus_ok ha hb'
 by_cases a0 : a < 0
 ·have hd : decide (a < 0) = true := by simpa using a0
  rw [hd] at HA hk1
  by_cases b0 : b < 0
  ·have hd2 : decide (b < 0) = true := by simpa using b0
   rw [hd2] at HB
   have hk := hk1 (by simp [a0, b0])
   by_cases hs : hb <= enc (a + b)
   ·have hd3 : decide (hb <= enc (a + b)) = true := by simpa using hs
    rw [hd3] at HM hk
    rw [opt_yes (hk.1 rfl)]
    clear hk1 hk2 hk hs hd hd2 hd3 a0 b0
    unfold wideV at *
    go_enter Tryd.func51, Tryd.ntmps51
    go_wp2_with (first | ((with_reducible apply ld_rowP undW infoW); exact rfl; exact rfl; exact gRow) | ((with_reducible apply st_rowP infoW); exact rfl; exact rfl; exact gRow) | ((with_reducible apply st_rowZ infoW); exact rfl; exact rfl; exact gRow) | (go_at_call 59; refine (HP.out _).mono ?_; rintro e w' ⟨rfl, hu⟩; have hsz := hu.size; simp at hsz))
    refine opU (S := (fun wq => Row wq w.heap.size 80 16 (limb (enc a)) /\ Row wq (w.heap.size + 1) 80 16 (limb (enc b)) /\ Row wq (w.heap.size + 1 + 1) 80 16 (fun _ => 0) /\ Row wq w'.heap.size 80 16 (limb (enc (a + b))) /\ Below w.heap.size w wq)) (req := (fun _ => true)) (fun _ _ h hu => ⟨(h.1).up hu, (h.2.1).up hu, (h.2.2.1).up hu, (h.2.2.2.1).up hu, below_up (h.2.2.2.2) hu⟩) ⟨gRow, gRow, gRow, gRow, gUp⟩ (fun wS hSS hSu => ?_)
    have ⟨hS1, hS2, hS3, hS4, hSB⟩ := hSS
    clear hu
    refine tkT 0 (some 10) rfl hSu hSS ?_ (hy := fun w' hSw => run_ld undW infoW _ rfl _ rfl hSw.1)
    refine tkC 1 (some 11) rfl hSu hSS ?_ (hy := fun w' hSw => (HA.out _))
    refine tkT 2 (some 12) rfl hSu hSS ?_ (hy := fun w' hSw => run_ld undW infoW _ rfl _ rfl hSw.2.1)
    refine tkC 3 (some 13) rfl hSu hSS ?_ (hy := fun w' hSw => (HB.out _))
    refine tkP 4 (some 14) hSu ?_
    refine tkP 5 (some 15) hSu ?_
    refine tkT 6 (some 16) rfl hSu hSS ?_ (hy := fun w' hSw => run_ld undW infoW _ rfl _ rfl hSw.2.2.2.1)
    refine tkC 7 (some 17) rfl hSu hSS ?_ (hy := fun w' hSw => (HM.out _))
    refine tkT 8 (some 18) rfl hSu hSS ?_ (hy := fun w' hSw => run_ld undW infoW _ rfl _ rfl hSw.1)
    refine tkC 9 (some 19) rfl hSu hSS ?_ (hy := fun w' hSw => (HA.out _))
    refine tkP 10 (some 20) hSu ?_
    refine tkP 11 (some 21) hSu ?_
    refine wpAnyU_done (by kernel_rfl) (fun wE huE => ?_) _
    have ⟨hS1, hS2, hS3, hS4, hSB⟩ := hSu.out _ _ hSS huE
    clear huE hSS
    go_wp2_with (first | ((with_reducible apply ld_rowP undW infoW); exact rfl; exact rfl; exact gRow) | ((with_reducible apply st_rowP infoW); exact rfl; exact rfl; exact gRow) | ((with_reducible apply st_rowZ infoW); exact rfl; exact rfl; exact gRow))
    exact bodyPost_ret (res2 rfl undW infoW _ _ rfl gRow) rfl ⟨rfl, gUp⟩
   ·have hd3 : decide (hb <= enc (a + b)) = false := by simpa using hs
    rw [hd3] at HM hk
    rw [opt_no fun h => by simpa using hk.2 h]
    clear hk1 hk2 hk hs hd hd2 hd3 a0 b0
    unfold wideV at *
    go_enter Tryd.func51, Tryd.ntmps51
    go_wp2_with (first | ((with_reducible apply ld_rowP undW infoW); exact rfl; exact rfl; exact gRow) | ((with_reducible apply st_rowP infoW); exact rfl; exact rfl; exact gRow) | ((with_reducible apply st_rowZ infoW); exact rfl; exact rfl; exact gRow) | (go_at_call 59; refine (HP.out _).mono ?_; rintro e w' ⟨rfl, hu⟩; have hsz := hu.size; simp at hsz))
    refine opU (S := (fun wq => Row wq w.heap.size 80 16 (limb (enc a)) /\ Row wq (w.heap.size + 1) 80 16 (limb (enc b)) /\ Row wq (w.heap.size + 1 + 1) 80 16 (fun _ => 0) /\ Row wq w'.heap.size 80 16 (limb (enc (a + b))) /\ Below w.heap.size w wq)) (req := (fun _ => true)) (fun _ _ h hu => ⟨(h.1).up hu, (h.2.1).up hu, (h.2.2.1).up hu, (h.2.2.2.1).up hu, below_up (h.2.2.2.2) hu⟩) ⟨gRow, gRow, gRow, gRow, gUp⟩ (fun wS hSS hSu => ?_)
    have ⟨hS1, hS2, hS3, hS4, hSB⟩ := hSS
    clear hu
    refine tkT 0 (some 10) rfl hSu hSS ?_ (hy := fun w' hSw => run_ld undW infoW _ rfl _ rfl hSw.1)
    refine tkC 1 (some 11) rfl hSu hSS ?_ (hy := fun w' hSw => (HA.out _))
    refine tkT 2 (some 12) rfl hSu hSS ?_ (hy := fun w' hSw => run_ld undW infoW _ rfl _ rfl hSw.2.1)
    refine tkC 3 (some 13) rfl hSu hSS ?_ (hy := fun w' hSw => (HB.out _))
    refine tkP 4 (some 14) hSu ?_
    refine tkP 5 (some 15) hSu ?_
    refine tkT 6 (some 16) rfl hSu hSS ?_ (hy := fun w' hSw => run_ld undW infoW _ rfl _ rfl hSw.2.2.2.1)
    refine tkC 7 (some 17) rfl hSu hSS ?_ (hy := fun w' hSw => (HM.out _))
    refine tkT 8 (some 18) rfl hSu hSS ?_ (hy := fun w' hSw => run_ld undW infoW _ rfl _ rfl hSw.1)
    refine tkC 9 (some 19) rfl hSu hSS ?_ (hy := fun w' hSw => (HA.out _))
    refine tkP 10 (some 20) hSu ?_
    refine tkP 11 (some 21) hSu ?_
    refine wpAnyU_done (by kernel_rfl) (fun wE huE => ?_) _
    have ⟨hS1, hS2, hS3, hS4, hSB⟩ := hSu.out _ _ hSS huE
    clear huE hSS
    go_wp2_with (first | ((with_reducible apply ld_rowP undW infoW); exact rfl; exact rfl; exact gRow) | ((with_reducible apply st_rowP infoW); exact rfl; exact rfl; exact gRow) | ((with_reducible apply st_rowZ infoW); exact rfl; exact rfl; exact gRow))
    exact bodyPost_ret (res2 rfl undW infoW _ _ rfl gRow) rfl ⟨rfl, gUp⟩
  ·have hd2 : decide (b < 0) = false := by simpa using b0
   rw [hd2] at HB
   rw [opt_yes (hk2 (by simp [a0, b0]))]
   clear hk1 hk2 hd hd2 a0 b0
   unfold wideV at *
   go_enter Tryd.func51, Tryd.ntmps51
   go_wp2_with (first | ((with_reducible apply ld_rowP undW infoW); exact rfl; exact rfl; exact gRow) | ((with_reducible apply st_rowP infoW); exact rfl; exact rfl; exact gRow) | ((with_reducible apply st_rowZ infoW); exact rfl; exact rfl; exact gRow) | (go_at_call 59; refine (HP.out _).mono ?_; rintro e w' ⟨rfl, hu⟩; have hsz := hu.size; simp at hsz))
   refine opU (S := (fun wq => Row wq w.heap.size 80 16 (limb (enc a)) /\ Row wq (w.heap.size + 1) 80 16 (limb (enc b)) /\ Row wq (w.heap.size + 1 + 1) 80 16 (fun _ => 0) /\ Row wq w'.heap.size 80 16 (limb (enc (a + b))) /\ Below w.heap.size w wq)) (req := (fun _ => true)) (fun _ _ h hu => ⟨(h.1).up hu, (h.2.1).up hu, (h.2.2.1).up hu, (h.2.2.2.1).up hu, below_up (h.2.2.2.2) hu⟩) ⟨gRow, gRow, gRow, gRow, gUp⟩ (fun wS hSS hSu => ?_)
   have ⟨hS1, hS2, hS3, hS4, hSB⟩ := hSS
   clear hu
   refine tkT 0 (some 10) rfl hSu hSS ?_ (hy := fun w' hSw => run_ld undW infoW _ rfl _ rfl hSw.1)
   refine tkC 1 (some 11) rfl hSu hSS ?_ (hy := fun w' hSw => (HA.out _))
   refine tkT 2 (some 12) rfl hSu hSS ?_ (hy := fun w' hSw => run_ld undW infoW _ rfl _ rfl hSw.2.1)
   refine tkC 3 (some 13) rfl hSu hSS ?_ (hy := fun w' hSw => (HB.out _))
   refine tkP 4 (some 14) hSu ?_
   refine tkP 5 (some 15) hSu ?_
   refine tkS 6 (some 16) hSu ?_
   refine tkS 7 (some 17) hSu ?_
   refine tkS 8 (some 18) hSu ?_
   refine tkS 9 (some 19) hSu ?_
   refine tkS 10 (some 20) hSu ?_
   refine tkP 11 (some 21) hSu ?_
   refine wpAnyU_done (by kernel_rfl) (fun wE huE => ?_) _
   have ⟨hS1, hS2, hS3, hS4, hSB⟩ := hSu.out _ _ hSS huE
   clear huE hSS
   go_wp2_with (first | ((with_reducible apply ld_rowP undW infoW); exact rfl; exact rfl; exact gRow) | ((with_reducible apply st_rowP infoW); exact rfl; exact rfl; exact gRow) | ((with_reducible apply st_rowZ infoW); exact rfl; exact rfl; exact gRow))
   exact bodyPost_ret (res2 rfl undW infoW _ _ rfl gRow) rfl ⟨rfl, gUp⟩
 ·have hd : decide (a < 0) = false := by simpa using a0
  rw [hd] at HA hk1
  by_cases b0 : b < 0
  ·have hd2 : decide (b < 0) = true := by simpa using b0
   rw [hd2] at HB
   rw [opt_yes (hk2 (by simp [a0, b0]))]
   clear hk1 hk2 hd hd2 a0 b0
   unfold wideV at *
   go_enter Tryd.func51, Tryd.ntmps51
   go_wp2_with (first | ((with_reducible apply ld_rowP undW infoW); exact rfl; exact rfl; exact gRow) | ((with_reducible apply st_rowP infoW); exact rfl; exact rfl; exact gRow) | ((with_reducible apply st_rowZ infoW); exact rfl; exact rfl; exact gRow) | (go_at_call 59; refine (HP.out _).mono ?_; rintro e w' ⟨rfl, hu⟩; have hsz := hu.size; simp at hsz))
   refine opU (S := (fun wq => Row wq w.heap.size 80 16 (limb (enc a)) /\ Row wq (w.heap.size + 1) 80 16 (limb (enc b)) /\ Row wq (w.heap.size + 1 + 1) 80 16 (fun _ => 0) /\ Row wq w'.heap.size 80 16 (limb (enc (a + b))) /\ Below w.heap.size w wq)) (req := (fun _ => true)) (fun _ _ h hu => ⟨(h.1).up hu, (h.2.1).up hu, (h.2.2.1).up hu, (h.2.2.2.1).up hu, below_up (h.2.2.2.2) hu⟩) ⟨gRow, gRow, gRow, gRow, gUp⟩ (fun wS hSS hSu => ?_)
   have ⟨hS1, hS2, hS3, hS4, hSB⟩ := hSS
   clear hu
   refine tkT 0 (some 10) rfl hSu hSS ?_ (hy := fun w' hSw => run_ld undW infoW _ rfl _ rfl hSw.1)
   refine tkC 1 (some 11) rfl hSu hSS ?_ (hy := fun w' hSw => (HA.out _))
   refine tkT 2 (some 12) rfl hSu hSS ?_ (hy := fun w' hSw => run_ld undW infoW _ rfl _ rfl hSw.2.1)
   refine tkC 3 (some 13) rfl hSu hSS ?_ (hy := fun w' hSw => (HB.out _))
   refine tkP 4 (some 14) hSu ?_
   refine tkP 5 (some 15) hSu ?_
   refine tkS 6 (some 16) hSu ?_
   refine tkS 7 (some 17) hSu ?_
   refine tkS 8 (some 18) hSu ?_
   refine tkS 9 (some 19) hSu ?_
   refine tkS 10 (some 20) hSu ?_
   refine tkP 11 (some 21) hSu ?_
   refine wpAnyU_done (by kernel_rfl) (fun wE huE => ?_) _
   have ⟨hS1, hS2, hS3, hS4, hSB⟩ := hSu.out _ _ hSS huE
   clear huE hSS
   go_wp2_with (first | ((with_reducible apply ld_rowP undW infoW); exact rfl; exact rfl; exact gRow) | ((with_reducible apply st_rowP infoW); exact rfl; exact rfl; exact gRow) | ((with_reducible apply st_rowZ infoW); exact rfl; exact rfl; exact gRow))
   exact bodyPost_ret (res2 rfl undW infoW _ _ rfl gRow) rfl ⟨rfl, gUp⟩
  ·have hd2 : decide (b < 0) = false := by simpa using b0
   rw [hd2] at HB
   have hk := hk1 (by simp [a0, b0])
   by_cases hs : hb <= enc (a + b)
   ·have hd3 : decide (hb <= enc (a + b)) = true := by simpa using hs
    rw [hd3] at HM hk
    rw [opt_no fun h => by simpa using hk.2 h]
    clear hk1 hk2 hk hs hd hd2 hd3 a0 b0
    unfold wideV at *
    go_enter Tryd.func51, Tryd.ntmps51
    go_wp2_with (first | ((with_reducible apply ld_rowP undW infoW); exact rfl; exact rfl; exact gRow) | ((with_reducible apply st_rowP infoW); exact rfl; exact rfl; exact gRow) | ((with_reducible apply st_rowZ infoW); exact rfl; exact rfl; exact gRow) | (go_at_call 59; refine (HP.out _).mono ?_; rintro e w' ⟨rfl, hu⟩; have hsz := hu.size; simp at hsz))
    refine opU (S := (fun wq => Row wq w.heap.size 80 16 (limb (enc a)) /\ Row wq (w.heap.size + 1) 80 16 (limb (enc b)) /\ Row wq (w.heap.size + 1 + 1) 80 16 (fun _ => 0) /\ Row wq w'.heap.size 80 16 (limb (enc (a + b))) /\ Below w.heap.size w wq)) (req := (fun _ => true)) (fun _ _ h hu => ⟨(h.1).up hu, (h.2.1).up hu, (h.2.2.1).up hu, (h.2.2.2.1).up hu, below_up (h.2.2.2.2) hu⟩) ⟨gRow, gRow, gRow, gRow, gUp⟩ (fun wS hSS hSu => ?_)
    have ⟨hS1, hS2, hS3, hS4, hSB⟩ := hSS
    clear hu
    refine tkT 0 (some 10) rfl hSu hSS ?_ (hy := fun w' hSw => run_ld undW infoW _ rfl _ rfl hSw.1)
    refine tkC 1 (some 11) rfl hSu hSS ?_ (hy := fun w' hSw => (HA.out _))
    refine tkT 2 (some 12) rfl hSu hSS ?_ (hy := fun w' hSw => run_ld undW infoW _ rfl _ rfl hSw.2.1)
    refine tkC 3 (some 13) rfl hSu hSS ?_ (hy := fun w' hSw => (HB.out _))
    refine tkP 4 (some 14) hSu ?_
    refine tkP 5 (some 15) hSu ?_
    refine tkT 6 (some 16) rfl hSu hSS ?_ (hy := fun w' hSw => run_ld undW infoW _ rfl _ rfl hSw.2.2.2.1)
    refine tkC 7 (some 17) rfl hSu hSS ?_ (hy := fun w' hSw => (HM.out _))
    refine tkT 8 (some 18) rfl hSu hSS ?_ (hy := fun w' hSw => run_ld undW infoW _ rfl _ rfl hSw.1)
    refine tkC 9 (some 19) rfl hSu hSS ?_ (hy := fun w' hSw => (HA.out _))
    refine tkP 10 (some 20) hSu ?_
    refine tkP 11 (some 21) hSu ?_
    refine wpAnyU_done (by kernel_rfl) (fun wE huE => ?_) _
    have ⟨hS1, hS2, hS3, hS4, hSB⟩ := hSu.out _ _ hSS huE
    clear huE hSS
    go_wp2_with (first | ((with_reducible apply ld_rowP undW infoW); exact rfl; exact rfl; exact gRow) | ((with_reducible apply st_rowP infoW); exact rfl; exact rfl; exact gRow) | ((with_reducible apply st_rowZ infoW); exact rfl; exact rfl; exact gRow))
    exact bodyPost_ret (res2 rfl undW infoW _ _ rfl gRow) rfl ⟨rfl, gUp⟩
   ·have hd3 : decide (hb <= enc (a + b)) = false := by simpa using hs
    rw [hd3] at HM hk
    rw [opt_yes (hk.1 rfl)]
    clear hk1 hk2 hk hs hd hd2 hd3 a0 b0
    unfold wideV at *
    go_enter Tryd.func51, Tryd.ntmps51
    go_wp2_with (first | ((with_reducible apply ld_rowP undW infoW); exact rfl; exact rfl; exact gRow) | ((with_reducible apply st_rowP infoW); exact rfl; exact rfl; exact gRow) | ((with_reducible apply st_rowZ infoW); exact rfl; exact rfl; exact gRow) | (go_at_call 59; refine (HP.out _).mono ?_; rintro e w' ⟨rfl, hu⟩; have hsz := hu.size; simp at hsz))
    refine opU (S := (fun wq => Row wq w.heap.size 80 16 (limb (enc a)) /\ Row wq (w.heap.size + 1) 80 16 (limb (enc b)) /\ Row wq (w.heap.size + 1 + 1) 80 16 (fun _ => 0) /\ Row wq w'.heap.size 80 16 (limb (enc (a + b))) /\ Below w.heap.size w wq)) (req := (fun _ => true)) (fun _ _ h hu => ⟨(h.1).up hu, (h.2.1).up hu, (h.2.2.1).up hu, (h.2.2.2.1).up hu, below_up (h.2.2.2.2) hu⟩) ⟨gRow, gRow, gRow, gRow, gUp⟩ (fun wS hSS hSu => ?_)
    have ⟨hS1, hS2, hS3, hS4, hSB⟩ := hSS
    clear hu
    refine tkT 0 (some 10) rfl hSu hSS ?_ (hy := fun w' hSw => run_ld undW infoW _ rfl _ rfl hSw.1)
    refine tkC 1 (some 11) rfl hSu hSS ?_ (hy := fun w' hSw => (HA.out _))
    refine tkT 2 (some 12) rfl hSu hSS ?_ (hy := fun w' hSw => run_ld undW infoW _ rfl _ rfl hSw.2.1)
    refine tkC 3 (some 13) rfl hSu hSS ?_ (hy := fun w' hSw => (HB.out _))
    refine tkP 4 (some 14) hSu ?_
    refine tkP 5 (some 15) hSu ?_
    refine tkT 6 (some 16) rfl hSu hSS ?_ (hy := fun w' hSw => run_ld undW infoW _ rfl _ rfl hSw.2.2.2.1)
    refine tkC 7 (some 17) rfl hSu hSS ?_ (hy := fun w' hSw => (HM.out _))
    refine tkT 8 (some 18) rfl hSu hSS ?_ (hy := fun w' hSw => run_ld undW infoW _ rfl _ rfl hSw.1)
    refine tkC 9 (some 19) rfl hSu hSS ?_ (hy := fun w' hSw => (HA.out _))
    refine tkP 10 (some 20) hSu ?_
    refine tkP 11 (some 21) hSu ?_
    refine wpAnyU_done (by kernel_rfl) (fun wE huE => ?_) _
    have ⟨hS1, hS2, hS3, hS4, hSB⟩ := hSu.out _ _ hSS huE
    clear huE hSS
    go_wp2_with (first | ((with_reducible apply ld_rowP undW infoW); exact rfl; exact rfl; exact gRow) | ((with_reducible apply st_rowP infoW); exact rfl; exact rfl; exact gRow) | ((with_reducible apply st_rowZ infoW); exact rfl; exact rfl; exact gRow))
    exact bodyPost_ret (res2 rfl undW infoW _ _ rfl gRow) rfl ⟨rfl, gUp⟩
theorem less_ok {a b : Int} (ha : InR a) (hb' : InR b) : ((a < 0 ↔ ¬ b < 0) -> ((decide (hb <= enc (a - b)) = decide (a < 0)) ↔ InR (a - b))) /\ (¬ (a < 0 ↔ ¬ b < 0) -> InR (a - b)) := by
 have h1 := ha.out
 have h2 := hb'.out
 have h3 := bp16
 have h4 := hb_pos
 constructor
 ·intro h
  by_cases a0 : a < 0
  ·have e : enc (a - b) = if a - b = -(bp 16 : Int) then 0 else (a - b + bp 16).toNat := by
    unfold enc
    split
    ·rename_i e; rw [e, Int.neg_emod_self]; rfl
    ·rw [<- Int.add_emod_right, Int.emod_eq_of_lt (by omega) (by omega)]
   rw [e, decide_eq_true a0, decide_eq_true_iff]
   constructor
   ·intro h5
    refine InR.mk' ?_
    split at h5 <;> omega
   ·intro h5
    have := h5.out
    split <;> omega
  ·have e : enc (a - b) = (a - b).toNat := by
    unfold enc
    rw [Int.emod_eq_of_lt (by omega) (by omega)]
   rw [e, decide_eq_false a0, decide_eq_false_iff_not]
   constructor
   ·intro h5; exact InR.mk' (by omega)
   ·intro h5; have := h5.out; omega
 ·intro h
  exact InR.mk' (by omega)
set_option maxHeartbeats 1000000 in
theorem sub_z {a b : Int} (ha : InR a) (hb' : InR b) (w : World) :
   Calls Tryd.prog 53 #[wideV (enc a), wideV (enc b)] w fun e w' => e = .returned (opt (a - b)) /\ Up w w' := by
 have HA := hid (fun w => minus_z ha w)
 have HB := hid (fun w => minus_z hb' w)
 have HM := hid (fun w => minus_e (a - b) w)
 have HP := hid (fun w => less_z a b w)
 obtain ⟨hk1, hk2⟩ := less_ok ha hb'
 by_cases a0 : a < 0
 ·have hd : decide (a < 0) = true := by simpa using a0
  rw [hd] at HA hk1
  by_cases b0 : b < 0
  ·have hd2 : decide (b < 0) = true := by simpa using b0
   rw [hd2] at HB
   rw [opt_yes (hk2 (by simp [a0, b0]))]
   clear hk1 hk2 hd hd2 a0 b0
   unfold wideV at *
   go_enter Tryd.func53, Tryd.ntmps53
   go_wp2_with (first | ((with_reducible apply ld_rowP undW infoW); exact rfl; exact rfl; exact gRow) | ((with_reducible apply st_rowP infoW); exact rfl; exact rfl; exact gRow) | ((with_reducible apply st_rowZ infoW); exact rfl; exact rfl; exact gRow) | (go_at_call 58; refine (HP.out _).mono ?_; rintro e w' ⟨rfl, hu⟩; have hsz := hu.size; simp at hsz))
   refine opU (S := (fun wq => Row wq w.heap.size 80 16 (limb (enc a)) /\ Row wq (w.heap.size + 1) 80 16 (limb (enc b)) /\ Row wq (w.heap.size + 1 + 1) 80 16 (fun _ => 0) /\ Row wq w'.heap.size 80 16 (limb (enc (a - b))) /\ Below w.heap.size w wq)) (req := (fun _ => true)) (fun _ _ h hu => ⟨(h.1).up hu, (h.2.1).up hu, (h.2.2.1).up hu, (h.2.2.2.1).up hu, below_up (h.2.2.2.2) hu⟩) ⟨gRow, gRow, gRow, gRow, gUp⟩ (fun wS hSS hSu => ?_)
   have ⟨hS1, hS2, hS3, hS4, hSB⟩ := hSS
   clear hu
   refine tkT 0 (some 10) rfl hSu hSS ?_ (hy := fun w' hSw => run_ld undW infoW _ rfl _ rfl hSw.1)
   refine tkC 1 (some 11) rfl hSu hSS ?_ (hy := fun w' hSw => (HA.out _))
   refine tkT 2 (some 12) rfl hSu hSS ?_ (hy := fun w' hSw => run_ld undW infoW _ rfl _ rfl hSw.2.1)
   refine tkC 3 (some 13) rfl hSu hSS ?_ (hy := fun w' hSw => (HB.out _))
   refine tkP 4 (some 14) hSu ?_
   refine tkP 5 (some 15) hSu ?_
   refine tkS 6 (some 16) hSu ?_
   refine tkS 7 (some 17) hSu ?_
   refine tkS 8 (some 18) hSu ?_
   refine tkS 9 (some 19) hSu ?_
   refine tkS 10 (some 20) hSu ?_
   refine tkP 11 (some 21) hSu ?_
   refine wpAnyU_done (by kernel_rfl) (fun wE huE => ?_) _
   have ⟨hS1, hS2, hS3, hS4, hSB⟩ := hSu.out _ _ hSS huE
   clear huE hSS
   go_wp2_with (first | ((with_reducible apply ld_rowP undW infoW); exact rfl; exact rfl; exact gRow) | ((with_reducible apply st_rowP infoW); exact rfl; exact rfl; exact gRow) | ((with_reducible apply st_rowZ infoW); exact rfl; exact rfl; exact gRow))
   exact bodyPost_ret (res2 rfl undW infoW _ _ rfl gRow) rfl ⟨rfl, gUp⟩
  ·have hd2 : decide (b < 0) = false := by simpa using b0
   rw [hd2] at HB
   have hk := hk1 (by simp [a0, b0])
   by_cases hs : hb <= enc (a - b)
   ·have hd3 : decide (hb <= enc (a - b)) = true := by simpa using hs
    rw [hd3] at HM hk
    rw [opt_yes (hk.1 rfl)]
    clear hk1 hk2 hk hs hd hd2 hd3 a0 b0
    unfold wideV at *
    go_enter Tryd.func53, Tryd.ntmps53
    go_wp2_with (first | ((with_reducible apply ld_rowP undW infoW); exact rfl; exact rfl; exact gRow) | ((with_reducible apply st_rowP infoW); exact rfl; exact rfl; exact gRow) | ((with_reducible apply st_rowZ infoW); exact rfl; exact rfl; exact gRow) | (go_at_call 58; refine (HP.out _).mono ?_; rintro e w' ⟨rfl, hu⟩; have hsz := hu.size; simp at hsz))
    refine opU (S := (fun wq => Row wq w.heap.size 80 16 (limb (enc a)) /\ Row wq (w.heap.size + 1) 80 16 (limb (enc b)) /\ Row wq (w.heap.size + 1 + 1) 80 16 (fun _ => 0) /\ Row wq w'.heap.size 80 16 (limb (enc (a - b))) /\ Below w.heap.size w wq)) (req := (fun _ => true)) (fun _ _ h hu => ⟨(h.1).up hu, (h.2.1).up hu, (h.2.2.1).up hu, (h.2.2.2.1).up hu, below_up (h.2.2.2.2) hu⟩) ⟨gRow, gRow, gRow, gRow, gUp⟩ (fun wS hSS hSu => ?_)
    have ⟨hS1, hS2, hS3, hS4, hSB⟩ := hSS
    clear hu
    refine tkT 0 (some 10) rfl hSu hSS ?_ (hy := fun w' hSw => run_ld undW infoW _ rfl _ rfl hSw.1)
    refine tkC 1 (some 11) rfl hSu hSS ?_ (hy := fun w' hSw => (HA.out _))
    refine tkT 2 (some 12) rfl hSu hSS ?_ (hy := fun w' hSw => run_ld undW infoW _ rfl _ rfl hSw.2.1)
    refine tkC 3 (some 13) rfl hSu hSS ?_ (hy := fun w' hSw => (HB.out _))
    refine tkP 4 (some 14) hSu ?_
    refine tkP 5 (some 15) hSu ?_
    refine tkT 6 (some 16) rfl hSu hSS ?_ (hy := fun w' hSw => run_ld undW infoW _ rfl _ rfl hSw.2.2.2.1)
    refine tkC 7 (some 17) rfl hSu hSS ?_ (hy := fun w' hSw => (HM.out _))
    refine tkT 8 (some 18) rfl hSu hSS ?_ (hy := fun w' hSw => run_ld undW infoW _ rfl _ rfl hSw.1)
    refine tkC 9 (some 19) rfl hSu hSS ?_ (hy := fun w' hSw => (HA.out _))
    refine tkP 10 (some 20) hSu ?_
    refine tkP 11 (some 21) hSu ?_
    refine wpAnyU_done (by kernel_rfl) (fun wE huE => ?_) _
    have ⟨hS1, hS2, hS3, hS4, hSB⟩ := hSu.out _ _ hSS huE
    clear huE hSS
    go_wp2_with (first | ((with_reducible apply ld_rowP undW infoW); exact rfl; exact rfl; exact gRow) | ((with_reducible apply st_rowP infoW); exact rfl; exact rfl; exact gRow) | ((with_reducible apply st_rowZ infoW); exact rfl; exact rfl; exact gRow))
    exact bodyPost_ret (res2 rfl undW infoW _ _ rfl gRow) rfl ⟨rfl, gUp⟩
   ·have hd3 : decide (hb <= enc (a - b)) = false := by simpa using hs
    rw [hd3] at HM hk
    rw [opt_no fun h => by simpa using hk.2 h]
    clear hk1 hk2 hk hs hd hd2 hd3 a0 b0
    unfold wideV at *
    go_enter Tryd.func53, Tryd.ntmps53
    go_wp2_with (first | ((with_reducible apply ld_rowP undW infoW); exact rfl; exact rfl; exact gRow) | ((with_reducible apply st_rowP infoW); exact rfl; exact rfl; exact gRow) | ((with_reducible apply st_rowZ infoW); exact rfl; exact rfl; exact gRow) | (go_at_call 58; refine (HP.out _).mono ?_; rintro e w' ⟨rfl, hu⟩; have hsz := hu.size; simp at hsz))
    refine opU (S := (fun wq => Row wq w.heap.size 80 16 (limb (enc a)) /\ Row wq (w.heap.size + 1) 80 16 (limb (enc b)) /\ Row wq (w.heap.size + 1 + 1) 80 16 (fun _ => 0) /\ Row wq w'.heap.size 80 16 (limb (enc (a - b))) /\ Below w.heap.size w wq)) (req := (fun _ => true)) (fun _ _ h hu => ⟨(h.1).up hu, (h.2.1).up hu, (h.2.2.1).up hu, (h.2.2.2.1).up hu, below_up (h.2.2.2.2) hu⟩) ⟨gRow, gRow, gRow, gRow, gUp⟩ (fun wS hSS hSu => ?_)
    have ⟨hS1, hS2, hS3, hS4, hSB⟩ := hSS
    clear hu
    refine tkT 0 (some 10) rfl hSu hSS ?_ (hy := fun w' hSw => run_ld undW infoW _ rfl _ rfl hSw.1)
    refine tkC 1 (some 11) rfl hSu hSS ?_ (hy := fun w' hSw => (HA.out _))
    refine tkT 2 (some 12) rfl hSu hSS ?_ (hy := fun w' hSw => run_ld undW infoW _ rfl _ rfl hSw.2.1)
    refine tkC 3 (some 13) rfl hSu hSS ?_ (hy := fun w' hSw => (HB.out _))
    refine tkP 4 (some 14) hSu ?_
    refine tkP 5 (some 15) hSu ?_
    refine tkT 6 (some 16) rfl hSu hSS ?_ (hy := fun w' hSw => run_ld undW infoW _ rfl _ rfl hSw.2.2.2.1)
    refine tkC 7 (some 17) rfl hSu hSS ?_ (hy := fun w' hSw => (HM.out _))
    refine tkT 8 (some 18) rfl hSu hSS ?_ (hy := fun w' hSw => run_ld undW infoW _ rfl _ rfl hSw.1)
    refine tkC 9 (some 19) rfl hSu hSS ?_ (hy := fun w' hSw => (HA.out _))
    refine tkP 10 (some 20) hSu ?_
    refine tkP 11 (some 21) hSu ?_
    refine wpAnyU_done (by kernel_rfl) (fun wE huE => ?_) _
    have ⟨hS1, hS2, hS3, hS4, hSB⟩ := hSu.out _ _ hSS huE
    clear huE hSS
    go_wp2_with (first | ((with_reducible apply ld_rowP undW infoW); exact rfl; exact rfl; exact gRow) | ((with_reducible apply st_rowP infoW); exact rfl; exact rfl; exact gRow) | ((with_reducible apply st_rowZ infoW); exact rfl; exact rfl; exact gRow))
    exact bodyPost_ret (res2 rfl undW infoW _ _ rfl gRow) rfl ⟨rfl, gUp⟩
 ·have hd : decide (a < 0) = false := by simpa using a0
  rw [hd] at HA hk1
  by_cases b0 : b < 0
  ·have hd2 : decide (b < 0) = true := by simpa using b0
   rw [hd2] at HB
   have hk := hk1 (by simp [a0, b0])
   by_cases hs : hb <= enc (a - b)
   ·have hd3 : decide (hb <= enc (a - b)) = true := by simpa using hs
    rw [hd3] at HM hk
    rw [opt_no fun h => by simpa using hk.2 h]
    clear hk1 hk2 hk hs hd hd2 hd3 a0 b0
    unfold wideV at *
    go_enter Tryd.func53, Tryd.ntmps53
    go_wp2_with (first | ((with_reducible apply ld_rowP undW infoW); exact rfl; exact rfl; exact gRow) | ((with_reducible apply st_rowP infoW); exact rfl; exact rfl; exact gRow) | ((with_reducible apply st_rowZ infoW); exact rfl; exact rfl; exact gRow) | (go_at_call 58; refine (HP.out _).mono ?_; rintro e w' ⟨rfl, hu⟩; have hsz := hu.size; simp at hsz))
    refine opU (S := (fun wq => Row wq w.heap.size 80 16 (limb (enc a)) /\ Row wq (w.heap.size + 1) 80 16 (limb (enc b)) /\ Row wq (w.heap.size + 1 + 1) 80 16 (fun _ => 0) /\ Row wq w'.heap.size 80 16 (limb (enc (a - b))) /\ Below w.heap.size w wq)) (req := (fun _ => true)) (fun _ _ h hu => ⟨(h.1).up hu, (h.2.1).up hu, (h.2.2.1).up hu, (h.2.2.2.1).up hu, below_up (h.2.2.2.2) hu⟩) ⟨gRow, gRow, gRow, gRow, gUp⟩ (fun wS hSS hSu => ?_)
    have ⟨hS1, hS2, hS3, hS4, hSB⟩ := hSS
    clear hu
    refine tkT 0 (some 10) rfl hSu hSS ?_ (hy := fun w' hSw => run_ld undW infoW _ rfl _ rfl hSw.1)
    refine tkC 1 (some 11) rfl hSu hSS ?_ (hy := fun w' hSw => (HA.out _))
    refine tkT 2 (some 12) rfl hSu hSS ?_ (hy := fun w' hSw => run_ld undW infoW _ rfl _ rfl hSw.2.1)
    refine tkC 3 (some 13) rfl hSu hSS ?_ (hy := fun w' hSw => (HB.out _))
    refine tkP 4 (some 14) hSu ?_
    refine tkP 5 (some 15) hSu ?_
    refine tkT 6 (some 16) rfl hSu hSS ?_ (hy := fun w' hSw => run_ld undW infoW _ rfl _ rfl hSw.2.2.2.1)
    refine tkC 7 (some 17) rfl hSu hSS ?_ (hy := fun w' hSw => (HM.out _))
    refine tkT 8 (some 18) rfl hSu hSS ?_ (hy := fun w' hSw => run_ld undW infoW _ rfl _ rfl hSw.1)
    refine tkC 9 (some 19) rfl hSu hSS ?_ (hy := fun w' hSw => (HA.out _))
    refine tkP 10 (some 20) hSu ?_
    refine tkP 11 (some 21) hSu ?_
    refine wpAnyU_done (by kernel_rfl) (fun wE huE => ?_) _
    have ⟨hS1, hS2, hS3, hS4, hSB⟩ := hSu.out _ _ hSS huE
    clear huE hSS
    go_wp2_with (first | ((with_reducible apply ld_rowP undW infoW); exact rfl; exact rfl; exact gRow) | ((with_reducible apply st_rowP infoW); exact rfl; exact rfl; exact gRow) | ((with_reducible apply st_rowZ infoW); exact rfl; exact rfl; exact gRow))
    exact bodyPost_ret (res2 rfl undW infoW _ _ rfl gRow) rfl ⟨rfl, gUp⟩
   ·have hd3 : decide (hb <= enc (a - b)) = false := by simpa using hs
    rw [hd3] at HM hk
    rw [opt_yes (hk.1 rfl)]
    clear hk1 hk2 hk hs hd hd2 hd3 a0 b0
    unfold wideV at *
    go_enter Tryd.func53, Tryd.ntmps53
    go_wp2_with (first | ((with_reducible apply ld_rowP undW infoW); exact rfl; exact rfl; exact gRow) | ((with_reducible apply st_rowP infoW); exact rfl; exact rfl; exact gRow) | ((with_reducible apply st_rowZ infoW); exact rfl; exact rfl; exact gRow) | (go_at_call 58; refine (HP.out _).mono ?_; rintro e w' ⟨rfl, hu⟩; have hsz := hu.size; simp at hsz))
    refine opU (S := (fun wq => Row wq w.heap.size 80 16 (limb (enc a)) /\ Row wq (w.heap.size + 1) 80 16 (limb (enc b)) /\ Row wq (w.heap.size + 1 + 1) 80 16 (fun _ => 0) /\ Row wq w'.heap.size 80 16 (limb (enc (a - b))) /\ Below w.heap.size w wq)) (req := (fun _ => true)) (fun _ _ h hu => ⟨(h.1).up hu, (h.2.1).up hu, (h.2.2.1).up hu, (h.2.2.2.1).up hu, below_up (h.2.2.2.2) hu⟩) ⟨gRow, gRow, gRow, gRow, gUp⟩ (fun wS hSS hSu => ?_)
    have ⟨hS1, hS2, hS3, hS4, hSB⟩ := hSS
    clear hu
    refine tkT 0 (some 10) rfl hSu hSS ?_ (hy := fun w' hSw => run_ld undW infoW _ rfl _ rfl hSw.1)
    refine tkC 1 (some 11) rfl hSu hSS ?_ (hy := fun w' hSw => (HA.out _))
    refine tkT 2 (some 12) rfl hSu hSS ?_ (hy := fun w' hSw => run_ld undW infoW _ rfl _ rfl hSw.2.1)
    refine tkC 3 (some 13) rfl hSu hSS ?_ (hy := fun w' hSw => (HB.out _))
    refine tkP 4 (some 14) hSu ?_
    refine tkP 5 (some 15) hSu ?_
    refine tkT 6 (some 16) rfl hSu hSS ?_ (hy := fun w' hSw => run_ld undW infoW _ rfl _ rfl hSw.2.2.2.1)
    refine tkC 7 (some 17) rfl hSu hSS ?_ (hy := fun w' hSw => (HM.out _))
    refine tkT 8 (some 18) rfl hSu hSS ?_ (hy := fun w' hSw => run_ld undW infoW _ rfl _ rfl hSw.1)
    refine tkC 9 (some 19) rfl hSu hSS ?_ (hy := fun w' hSw => (HA.out _))
    refine tkP 10 (some 20) hSu ?_
    refine tkP 11 (some 21) hSu ?_
    refine wpAnyU_done (by kernel_rfl) (fun wE huE => ?_) _
    have ⟨hS1, hS2, hS3, hS4, hSB⟩ := hSu.out _ _ hSS huE
    clear huE hSS
    go_wp2_with (first | ((with_reducible apply ld_rowP undW infoW); exact rfl; exact rfl; exact gRow) | ((with_reducible apply st_rowP infoW); exact rfl; exact rfl; exact gRow) | ((with_reducible apply st_rowZ infoW); exact rfl; exact rfl; exact gRow))
    exact bodyPost_ret (res2 rfl undW infoW _ _ rfl gRow) rfl ⟨rfl, gUp⟩
  ·have hd2 : decide (b < 0) = false := by simpa using b0
   rw [hd2] at HB
   rw [opt_yes (hk2 (by simp [a0, b0]))]
   clear hk1 hk2 hd hd2 a0 b0
   unfold wideV at *
   go_enter Tryd.func53, Tryd.ntmps53
   go_wp2_with (first | ((with_reducible apply ld_rowP undW infoW); exact rfl; exact rfl; exact gRow) | ((with_reducible apply st_rowP infoW); exact rfl; exact rfl; exact gRow) | ((with_reducible apply st_rowZ infoW); exact rfl; exact rfl; exact gRow) | (go_at_call 58; refine (HP.out _).mono ?_; rintro e w' ⟨rfl, hu⟩; have hsz := hu.size; simp at hsz))
   refine opU (S := (fun wq => Row wq w.heap.size 80 16 (limb (enc a)) /\ Row wq (w.heap.size + 1) 80 16 (limb (enc b)) /\ Row wq (w.heap.size + 1 + 1) 80 16 (fun _ => 0) /\ Row wq w'.heap.size 80 16 (limb (enc (a - b))) /\ Below w.heap.size w wq)) (req := (fun _ => true)) (fun _ _ h hu => ⟨(h.1).up hu, (h.2.1).up hu, (h.2.2.1).up hu, (h.2.2.2.1).up hu, below_up (h.2.2.2.2) hu⟩) ⟨gRow, gRow, gRow, gRow, gUp⟩ (fun wS hSS hSu => ?_)
   have ⟨hS1, hS2, hS3, hS4, hSB⟩ := hSS
   clear hu
   refine tkT 0 (some 10) rfl hSu hSS ?_ (hy := fun w' hSw => run_ld undW infoW _ rfl _ rfl hSw.1)
   refine tkC 1 (some 11) rfl hSu hSS ?_ (hy := fun w' hSw => (HA.out _))
   refine tkT 2 (some 12) rfl hSu hSS ?_ (hy := fun w' hSw => run_ld undW infoW _ rfl _ rfl hSw.2.1)
   refine tkC 3 (some 13) rfl hSu hSS ?_ (hy := fun w' hSw => (HB.out _))
   refine tkP 4 (some 14) hSu ?_
   refine tkP 5 (some 15) hSu ?_
   refine tkS 6 (some 16) hSu ?_
   refine tkS 7 (some 17) hSu ?_
   refine tkS 8 (some 18) hSu ?_
   refine tkS 9 (some 19) hSu ?_
   refine tkS 10 (some 20) hSu ?_
   refine tkP 11 (some 21) hSu ?_
   refine wpAnyU_done (by kernel_rfl) (fun wE huE => ?_) _
   have ⟨hS1, hS2, hS3, hS4, hSB⟩ := hSu.out _ _ hSS huE
   clear huE hSS
   go_wp2_with (first | ((with_reducible apply ld_rowP undW infoW); exact rfl; exact rfl; exact gRow) | ((with_reducible apply st_rowP infoW); exact rfl; exact rfl; exact gRow) | ((with_reducible apply st_rowZ infoW); exact rfl; exact rfl; exact gRow))
   exact bodyPost_ret (res2 rfl undW infoW _ _ rfl gRow) rfl ⟨rfl, gUp⟩
theorem step_arith {x y a b h l r1 c1 r2 c2 : Nat} (hx : x < 18446744073709551616) (hy : y < 18446744073709551616) (ha : a < 18446744073709551616) (hb' : b < 18446744073709551616)
   (eh : h = x * y / 18446744073709551616) (el : l = x * y % 18446744073709551616) (e1 : r1 = (l + a + 0) % 18446744073709551616) (f1 : c1 = (l + a + 0) / 18446744073709551616)
   (e2 : r2 = (r1 + b + 0) % 18446744073709551616) (f2 : c2 = (r1 + b + 0) / 18446744073709551616) :
   h + c1 + c2 < 18446744073709551616 /\ r2 = (x * y + a + b) % 18446744073709551616 /\ h + c1 + c2 = (x * y + a + b) / 18446744073709551616 := by
 have h1 : x * y <= 18446744073709551615 * 18446744073709551615 := Nat.mul_le_mul (by omega) (by omega)
 generalize x * y = p at *
 omega
set_option maxHeartbeats 400000 in
theorem step_any (x y a b : Nat) (hx : x < 18446744073709551616) (hy : y < 18446744073709551616) (ha : a < 18446744073709551616) (hb' : b < 18446744073709551616) (w : World) :
   Calls Tryd.prog 56 #[.int .u64 x, .int .u64 y, .int .u64 a, .int .u64 b] w
    fun e w' => e = .returned (.tuple #[.int .u64 ((x * y + a + b) % 18446744073709551616 : Nat), .int .u64 ((x * y + a + b) / 18446744073709551616 : Nat)]) /\ w' = w := by
 obtain ⟨h, l, HM, eh, el⟩ : ∃ h l : Nat, Hid (∀ w, Calls Tryd.prog 61 #[.int .u64 x, .int .u64 y] w fun e w' => e = .returned (.tuple #[.int .u64 (h : Nat), .int .u64 (l : Nat)]) /\ w' = w) /\
    h = x * y / 18446744073709551616 /\ l = x * y % 18446744073709551616 := ⟨_, _, hid (Tryd.bits_Mul64 x y hx hy), rfl, rfl⟩
 obtain ⟨r1, c1, HA, e1, f1⟩ : ∃ r c : Nat, (∀ w, (callFunc 62 #[.int .u64 (l : Nat), .int .u64 (a : Nat), .int .u64 0]).run Tryd.prog w = .ok (.value (.tuple #[.int .u64 (r : Nat), .int .u64 (c : Nat)])) w) /\
    r = (l + a + 0) % 18446744073709551616 /\ c = (l + a + 0) / 18446744073709551616 := ⟨_, _, run_add l a 0 (by omega), rfl, rfl⟩
 obtain ⟨r2, c2, HA2, e2, f2⟩ : ∃ r c : Nat, (∀ w, (callFunc 62 #[.int .u64 (r1 : Nat), .int .u64 (b : Nat), .int .u64 0]).run Tryd.prog w = .ok (.value (.tuple #[.int .u64 (r : Nat), .int .u64 (c : Nat)])) w) /\
    r = (r1 + b + 0) % 18446744073709551616 /\ c = (r1 + b + 0) / 18446744073709551616 := ⟨_, _, run_add r1 b 0 (by omega), rfl, rfl⟩
 obtain ⟨g1, g2, g3⟩ := step_arith hx hy ha hb' eh el e1 f1 e2 f2
 rw [<- g2, <- g3]
 clear g2 g3 eh el e1 f1 e2 f2
 go_enter Tryd.func56, Tryd.ntmps56
 go_wp2_with (go_at_call 61; refine (HM.out _).mono ?_; rintro e w' ⟨rfl, rfl⟩)
 go_ret2
 exact ⟨rfl, rfl⟩
theorem i64V_yes {z : Int} (h : -9223372036854775808 <= z /\ z < 9223372036854775808) : i64V z = .tuple #[.int .i64 z, .bool true] := by
 unfold i64V
 rw [if_pos h, decide_eq_true h]
theorem i64V_no {z : Int} (h : ¬ (-9223372036854775808 <= z /\ z < 9223372036854775808)) : i64V z = .tuple #[.int .i64 0, .bool false] := by
 unfold i64V
 rw [if_neg h, decide_eq_false h]
theorem fx_size (v : Int) (h1 : -9223372036854775808 <= v) (h2 : v < 9223372036854775808) (w : World) :
   Calls Tryd.prog 22 #[.int .i64 v] w fun e w' => e = .returned (.int .u64 ((v.natAbs : Nat) : Int)) /\ Up w w' := by
 by_cases h : v < 0
 ·have hd : decide (v < 0) = true := decide_eq_true h
  have e : IntKind.u64.wrap (-IntKind.u64.wrap v) = ((v.natAbs : Nat) : Int) := by
   rw [IntKind.wrap_u64, IntKind.wrap_u64]; omega
  go_enter Tryd.func22, Tryd.ntmps22
  go_wp2
  go_ret
  exact ⟨rfl, gUp⟩
 ·have hd : decide (v < 0) = false := decide_eq_false h
  have e : IntKind.u64.wrap v = ((v.natAbs : Nat) : Int) := by
   rw [IntKind.wrap_u64]; omega
  go_enter Tryd.func22, Tryd.ntmps22
  go_wp2
  go_ret
  exact ⟨rfl, gUp⟩
theorem fx_signed (n : Nat) (hn : n < 18446744073709551616) (neg : Bool) (w : World) :
   Calls Tryd.prog 42 #[.int .u64 n, .bool neg] w fun e w' => e = .returned (i64V (pm neg n)) /\ Up w w' := by
 cases neg with
 | false =>
   by_cases h : n < 9223372036854775808
   ·rw [show i64V (pm false n) = .tuple #[.int .i64 n, .bool true] from i64V_yes (by simp only [pm, Bool.false_eq_true, if_false]; omega)]
    have hc : IntKind.i64.wrap (n : Int) = n := IntWalk.i64_in _ (by omega)
    have hd : decide ((n : Int) < 0) = false := decide_eq_false (by omega)
    go_enter Tryd.func42, Tryd.ntmps42
    go_wp2
    go_ret2
    exact ⟨rfl, gUp⟩
   ·rw [show i64V (pm false n) = .tuple #[.int .i64 0, .bool false] from i64V_no (by simp only [pm, Bool.false_eq_true, if_false]; omega)]
    obtain ⟨u, hu⟩ : ∃ u : Int, u = (n : Int) - 18446744073709551616 := ⟨_, rfl⟩
    have hc : IntKind.i64.wrap (n : Int) = u := by rw [IntKind.wrap_i64]; omega
    have hd : decide (u < 0) = true := decide_eq_true (by omega)
    have h0 : ((n : Int) != 0) = true := by simp; omega
    clear hu h hn
    go_enter Tryd.func42, Tryd.ntmps42
    go_wp2
    go_ret2
    exact ⟨rfl, gUp⟩
 | true =>
   by_cases h : n <= 9223372036854775808
   ·rw [show i64V (pm true n) = .tuple #[.int .i64 (-(n : Int)), .bool true] from i64V_yes (by simp only [pm, if_true]; omega)]
    obtain ⟨u, hu⟩ : ∃ u : Int, u = if (n : Int) < 9223372036854775808 then (n : Int) else -9223372036854775808 := ⟨_, rfl⟩
    have hc : IntKind.i64.wrap (n : Int) = u := by rw [IntKind.wrap_i64]; split at hu <;> omega
    obtain ⟨v, hv⟩ : ∃ v : Int, v = -(n : Int) := ⟨_, rfl⟩
    have hc2 : IntKind.i64.wrap (-u) = v := by rw [IntKind.wrap_i64]; split at hu <;> omega
    by_cases h0 : n = 0
    ·have h00 : ((n : Int) != 0) = false := by simp; omega
     have hd : decide (v < 0) = false := decide_eq_false (by omega)
     rw [<- hv]
     clear hu hv h hn h0
     go_enter Tryd.func42, Tryd.ntmps42
     go_wp2
     go_ret2
     exact ⟨rfl, gUp⟩
    ·have hd : decide (v < 0) = true := decide_eq_true (by omega)
     rw [<- hv]
     clear hu hv h hn h0
     go_enter Tryd.func42, Tryd.ntmps42
     go_wp2
     go_ret2
     exact ⟨rfl, gUp⟩
   ·rw [show i64V (pm true n) = .tuple #[.int .i64 0, .bool false] from i64V_no (by simp only [pm, if_true]; omega)]
    obtain ⟨u, hu⟩ : ∃ u : Int, u = (n : Int) - 18446744073709551616 := ⟨_, rfl⟩
    have hc : IntKind.i64.wrap (n : Int) = u := by rw [IntKind.wrap_i64]; omega
    obtain ⟨v, hv⟩ : ∃ v : Int, v = -u := ⟨_, rfl⟩
    have hc2 : IntKind.i64.wrap (-u) = v := by rw [IntKind.wrap_i64]; omega
    have hd : decide (v < 0) = false := decide_eq_false (by omega)
    have h0 : ((n : Int) != 0) = true := by simp; omega
    clear hu hv h hn
    go_enter Tryd.func42, Tryd.ntmps42
    go_wp2
    go_ret2
    exact ⟨rfl, gUp⟩
theorem fx_sub (a b : Int) (a1 : -9223372036854775808 <= a) (a2 : a < 9223372036854775808) (b1 : -9223372036854775808 <= b) (b2 : b < 9223372036854775808) (w : World) :
   Calls Tryd.prog 26 #[.int .i64 a, .int .i64 b] w fun e w' => e = .returned (i64V (a - b)) /\ Up w w' := by
 obtain ⟨s, hs⟩ : ∃ s : Int, IntKind.i64.wrap (a - b) = s := ⟨_, rfl⟩
 obtain ⟨p, hp⟩ : ∃ p : Bool, decide (s < a) = p := ⟨_, rfl⟩
 obtain ⟨q, hq⟩ : ∃ q : Bool, decide (0 < b) = q := ⟨_, rfl⟩
 have hs' := hs
 have hp' := hp
 have hq' := hq
 rw [IntKind.wrap_i64] at hs'
 by_cases h : -9223372036854775808 <= a - b /\ a - b < 9223372036854775808
 ·have e : s = a - b := by omega
  rw [i64V_yes h, <- e]
  have : p = q := by rw [<- hp, <- hq, decide_eq_decide]; omega
  subst this
  clear hs' hp' hq' e h
  go_enter Tryd.func26, Tryd.ntmps26
  cases p <;> (go_wp2; go_ret2; exact ⟨rfl, gUp⟩)
 ·rw [i64V_no h]
  have : p = !q := by
   rw [<- hp, <- hq, <- decide_not, decide_eq_decide]; omega
  subst this
  clear hs' hp' hq' h
  go_enter Tryd.func26, Tryd.ntmps26
  cases q <;> (simp only [Bool.not_true, Bool.not_false] at hp; go_wp2; go_ret2; exact ⟨rfl, gUp⟩)
theorem fx_amount (v : Int) (h1 : -9223372036854775808 <= v) (h2 : v < 9223372036854775808) (w : World) :
   Calls Tryd.prog 31 #[.int .i64 v] w fun e w' => e = .returned (i64V (v.natAbs : Nat)) /\ Up w w' := by
 have HS := hid (fun w => fx_size v h1 h2 w)
 have HG := hid (fun w => fx_signed v.natAbs (by omega) false w)
 rw [show pm false v.natAbs = ((v.natAbs : Nat) : Int) from rfl] at HG
 generalize v.natAbs = n at *
 obtain ⟨x, ok, hx⟩ : ∃ x ok, i64V (n : Int) = .tuple #[.int .i64 x, .bool ok] := ⟨_, _, rfl⟩
 rw [hx] at HG ⊢
 clear hx
 go_enter Tryd.func31, Tryd.ntmps31
 go_wp2_with (first | (go_at_call 22; refine (HS.out _).mono ?_; rintro e w' ⟨rfl, hu⟩) | (go_at_call 42; refine (HG.out _).mono ?_; rintro e w' ⟨rfl, hu⟩))
 go_ret2
 exact ⟨rfl, gUp⟩
section
variable {P : Program} {o : Oper} {a : Act} {x y : Operand} {t u : TypeId}
theorem op_shr (ho : o.op = .binOp .shr t x y u) {X s : Nat} (hx : a.eval x = .int .u64 (X : Nat)) (hy : a.eval y = .int .u64 (s : Nat)) (hs : s <= 64) (w : World) :
   (execOp a.eval o).run P w = .ok (.value (.int .u64 ((X / 2 ^ s : Nat) : Int))) w := by
 unfold execOp
 simp only [ho, hx, hy, eqGuard, binOp, shift_shr .u64 .u64 (X : Int) (s : Int) (by omega) (show (s : Int) <= 64 by omega)]
 simp
theorem op_shl (ho : o.op = .binOp .shl t x y u) {X s : Nat} (hx : a.eval x = .int .u64 (X : Nat)) (hy : a.eval y = .int .u64 (s : Nat)) (hs : s <= 64) (w : World) :
   (execOp a.eval o).run P w = .ok (.value (.int .u64 ((X * 2 ^ s % 18446744073709551616 : Nat) : Int))) w := by
 unfold execOp
 simp only [ho, hx, hy, eqGuard, binOp, shift_shl .u64 .u64 (X : Int) (s : Int) (by omega) (show (s : Int) <= 64 by omega), IntKind.wrap_u64]
 simp
theorem op_or (ho : o.op = .binOp .or t x y u) {X Y : Nat} (hx : a.eval x = .int .u64 (X : Nat)) (hy : a.eval y = .int .u64 (Y : Nat)) (hX : X < 18446744073709551616) (hY : Y < 18446744073709551616) (w : World) :
   (execOp a.eval o).run P w = .ok (.value (.int .u64 ((X ||| Y : Nat) : Int))) w := by
 unfold execOp
 simp only [ho, hx, hy, eqGuard, binOp, intBits_or, bits_or_u64_nat X Y hX hY]
 simp
theorem op_sub (ho : o.op = .binOp .sub t x y u) {X Y : Nat} (hx : a.eval x = .int .u64 (X : Nat)) (hy : a.eval y = .int .u64 (Y : Nat)) (hX : X < 18446744073709551616) (hY : Y <= X) (w : World) :
   (execOp a.eval o).run P w = .ok (.value (.int .u64 ((X - Y : Nat) : Int))) w := by
 have e : IntKind.u64.wrap ((X : Int) - (Y : Int)) = ((X - Y : Nat) : Int) := by rw [IntKind.wrap_u64]; omega
 unfold execOp
 simp only [ho, hx, hy, eqGuard, binOp, Op.intArith, e]
 simp
end
theorem or_add {X Y s : Nat} (hY : Y < 2 ^ s) : (2 ^ s * X) ||| Y = 2 ^ s * X + Y := (Nat.two_pow_add_eq_or_of_lt hY X).symm
theorem shl_mod {x s : Nat} (hs : s <= 64) : x * 2 ^ s % 18446744073709551616 = 2 ^ s * (x % 2 ^ (64 - s)) := by
 have e : (18446744073709551616 : Nat) = 2 ^ s * 2 ^ (64 - s) := by rw [<- Nat.pow_add, show s + (64 - s) = 64 by omega]
 rw [e, Nat.mul_comm x, Nat.mul_mod_mul_left]
theorem shr_low {x s : Nat} (hs : s <= 64) : x * 2 ^ s / 18446744073709551616 = x / 2 ^ (64 - s) := by
 have e : (18446744073709551616 : Nat) = 2 ^ s * 2 ^ (64 - s) := by rw [<- Nat.pow_add, show s + (64 - s) = 64 by omega]
 rw [e, Nat.mul_comm x, Nat.mul_div_mul_left _ _ (Nat.two_pow_pos s)]
def rsh (f : Nat -> Nat) (s i : Nat) : Nat := f i / 2 ^ s + 2 ^ (64 - s) * (f (i + 1) % 2 ^ s)
theorem rsh_or {x y s : Nat} (hs : s <= 64) (hx : x < 18446744073709551616) : x / 2 ^ s ||| y * 2 ^ (64 - s) % 18446744073709551616 = x / 2 ^ s + 2 ^ (64 - s) * (y % 2 ^ s) := by
 rw [shl_mod (show 64 - s <= 64 by omega), show 64 - (64 - s) = s by omega, Nat.or_comm, or_add, Nat.add_comm]
 rw [Nat.div_lt_iff_lt_mul (Nat.two_pow_pos s), <- Nat.pow_add, show 64 - s + s = 64 by omega]
 exact hx
theorem rsh_lt {f : Nat -> Nat} {s i : Nat} (hs : s <= 64) (h : f i < 18446744073709551616) : rsh f s i < 18446744073709551616 := by
 have h1 : f i / 2 ^ s < 2 ^ (64 - s) := by
  rw [Nat.div_lt_iff_lt_mul (Nat.two_pow_pos s), <- Nat.pow_add, show 64 - s + s = 64 by omega]
  exact h
 have h2 := Nat.mod_lt (f (i + 1)) (Nat.two_pow_pos s)
 have h3 : 2 ^ (64 - s) * (f (i + 1) % 2 ^ s + 1) <= 2 ^ (64 - s) * 2 ^ s := Nat.mul_le_mul_left _ h2
 rw [<- Nat.pow_add, show 64 - s + s = 64 by omega, Nat.mul_add] at h3
 unfold rsh
 omega
theorem rsh_sum (f : Nat -> Nat) {s : Nat} (hs : s <= 64) (k : Nat) : 2 ^ s * sumL (rsh f s) k + f 0 % 2 ^ s = sumL f k + f k % 2 ^ s * bp k := by
 induction k with
 | zero => rw [sumL_zero, sumL_zero, bp_zero]; omega
 | succ k ih =>
   have e : 2 ^ s * 2 ^ (64 - s) = (18446744073709551616 : Nat) := by rw [<- Nat.pow_add, show s + (64 - s) = 64 by omega]
   have h1 := Nat.div_add_mod (f k) (2 ^ s)
   rw [sumL_succ, sumL_succ, bp_succ]
   unfold rsh at *
   generalize f (k + 1) % 2 ^ s = t at *
   generalize f k / 2 ^ s = u at *
   generalize f k % 2 ^ s = v at *
   generalize f 0 % 2 ^ s = z at *
   generalize 2 ^ (64 - s) = q at *
   generalize 2 ^ s = p at *
   generalize sumL (fun i => _) k = S at *
   generalize sumL f k = F at *
   generalize bp k = b at *
   rw [<- h1]
   grind
theorem rsh_num {f : Nat -> Nat} {s : Nat} (hs : s <= 64) {n : Nat} (hf : ∀ i, i < n + 1 -> f i < 18446744073709551616) : sumL (rsh f s) n = sumL f (n + 1) / 2 ^ s % bp n := by
 have h := rsh_sum f hs n
 have h1 := Nat.div_add_mod (f n) (2 ^ s)
 have h2 := Nat.mod_lt (f 0) (Nat.two_pow_pos s)
 have h3 := sumL_lt (f := rsh f s) (k := n) fun i hi => rsh_lt hs (hf i (by omega))
 have e : sumL f (n + 1) = f 0 % 2 ^ s + 2 ^ s * (sumL (rsh f s) n + f n / 2 ^ s * bp n) := by
  rw [sumL_succ]
  generalize f n / 2 ^ s = u at *
  generalize f n % 2 ^ s = v at *
  generalize f 0 % 2 ^ s = z at *
  generalize 2 ^ s = p at *
  rw [<- h1]
  grind
 rw [e, Nat.add_mul_div_left _ _ (Nat.two_pow_pos s), Nat.div_eq_of_lt h2, Nat.zero_add, Nat.add_mul_mod_self_right, Nat.mod_eq_of_lt h3]
theorem undL : Tryd.prog.underlying 119 = some (.array 17 56) := by kernel_rfl
theorem infoL : (Tryd.prog.info? 119).map (·.size) = some 17 := by kernel_rfl
def longV (f : Nat -> Nat) : Value := .agg (cells 17 f)
set_option maxHeartbeats 1000000 in
theorem right_any (f : Nat -> Nat) (hf : ∀ i, i < 17 -> f i < 18446744073709551616) (s : Nat) (hs : s < 64) (w : World) :
   Calls Tryd.prog 57 #[longV f, .int .u64 (s : Nat)] w fun e w' => e = .returned (wideV (sumL f 17 / 2 ^ s % bp 16)) /\ Up w w' := by
 rw [<- rsh_num (by omega) hf]
 have hrl : ∀ i, i < 16 -> rsh f s i < 18446744073709551616 := fun i hi => rsh_lt (by omega) (hf i (by omega))
 rw [<- wide_of hrl]
 unfold longV
 go_enter Tryd.func57, Tryd.ntmps57
 go_wp2
 go_loopw [7] (fun i wr => ∃ (k : Nat) (g : Nat -> Nat), k <= 16 /\ i = .int .i64 k /\ (∀ i, i < k -> g i = rsh f s i) /\
    Row wr w.heap.size 119 17 f /\ Row wr (w.heap.size + 1) 80 16 (fun _ => 0) /\ Row wr (w.heap.size + 1 + 1) 80 16 g /\ Below w.heap.size w wr)
  (fun i _ => 16 - (intOf i).toNat)
 case atStart => exact ⟨0, fun _ => 0, by omega, rfl, fun i h => by omega, row_alloc (row_alloc (row_newc _ 17 _ rfl)), gRow, gRow, gUp⟩
 case round =>
  obtain ⟨k, g, hk, rfl, hg, hX, hR, hM, hB⟩ := hrel
  have Hg := hid hg
  have Hf := hid hf
  have Hrl := hid hrl
  clear hg hf hrl
  by_cases hlt : k < 16
  ·have hcx := hX.cell k (by omega)
   have hcy := hX.cell (k + 1) (by omega)
   have hf1 := Hf.out k (by omega)
   have hf2 := Hf.out (k + 1) (by omega)
   have hq : f k / 2 ^ s < 18446744073709551616 := Nat.lt_of_le_of_lt (Nat.div_le_self _ _) hf1
   have HO : Hid (f k / 2 ^ s ||| f (k + 1) * 2 ^ (64 - s) % 18446744073709551616 = rsh f s k) := hid (rsh_or (y := f (k + 1)) (show s <= 64 by omega) hf1)
   have hk1 : (k : Int) < 17 := by omega
   have hk2 : (k : Int) + 1 < 17 := by omega
   have hk3 : (0 : Int) <= (k : Int) + 1 := by omega
   have E1 : Hid (IntKind.i64.wrap ((k : Int) + 1) = (k : Int) + 1) := hid (IntWalk.i64_in _ (by omega))
   have E2 : Hid (((k : Int) + 1).toNat = k + 1) := hid (by omega)
   go_wp2
   refine opU (S := (fun wq => Row wq w.heap.size 119 17 f /\ Row wq (w.heap.size + 1) 80 16 (fun _ => 0) /\ Row wq (w.heap.size + 1 + 1) 80 16 g /\ wq.cell? ⟨w.heap.size, k, none⟩ = some (.int .u64 (f k : Nat)) /\ wq.cell? ⟨w.heap.size, k + 1, none⟩ = some (.int .u64 (f (k + 1) : Nat)) /\ Below w.heap.size w wq)) (req := (fun j => j != 15)) (fun _ _ h hu => ⟨(h.1).up hu, (h.2.1).up hu, (h.2.2.1).up hu, hu.cell (h.2.2.2.1), hu.cell (h.2.2.2.2.1), below_up (h.2.2.2.2.2) hu⟩) ⟨gRow, gRow, gRow, (by first | assumption | (apply Blk.cell; exact gBlk; exact rfl)), (by first | assumption | (apply Blk.cell; exact gBlk; exact rfl)), gUp⟩ (fun wS hSS hSu => ?_)
   have ⟨hS1, hS2, hS3, hS4, hS5, hSB⟩ := hSS
   clear hcx hcy hX hR hM hB
   refine tkP 0 (some 10) hSu ?_
   refine tkP 1 (some 11) hSu ?_
   refine tkP 2 (some 12) hSu ?_
   refine tkT 3 (some 13) rfl hSu hSS ?_ (hy := fun w' hSw => by ((try dsimp only at hSw); (try obtain ⟨_, _, _, _, _, _⟩ := hSw); go_simp; (try exact rfl)))
   refine tkP 4 (some 14) hSu ?_
   refine tkT 5 (some 15) rfl hSu hSS ?_ (hy := fun w' hSw => op_shr rfl rfl rfl (by omega) _)
   refine tkP 6 (some 16) hSu ?_
   refine tkT 7 (some 17) rfl hSu hSS ?_ (hy := fun w' hSw => by (have e1 := E1.out; go_simp; (try exact rfl)))
   refine tkT 8 (some 18) rfl hSu hSS ?_ (hy := fun w' hSw => by (have e2 := E2.out; go_simp; (try exact rfl)))
   refine tkT 9 (some 19) rfl hSu hSS ?_ (hy := fun w' hSw => by ((try dsimp only at hSw); (try obtain ⟨_, _, _, _, _, _⟩ := hSw); go_simp; (try exact rfl)))
   refine tkP 10 (some 20) hSu ?_
   refine tkT 11 (some 21) rfl hSu hSS ?_ (hy := fun w' hSw => op_sub (X := 64) rfl rfl rfl (by decide) (by omega) _)
   refine tkT 12 (some 22) rfl hSu hSS ?_ (hy := fun w' hSw => op_shl rfl rfl rfl (by omega) _)
   refine tkT 13 (some 23) rfl hSu hSS ?_ (hy := fun w' hSw => op_or rfl rfl rfl hq (Nat.mod_lt _ (by decide)) _)
   rw [HO.out]
   refine tkP 14 (some 24) hSu ?_
   refine wpAnyU_one (i := 15) rfl (by kernel_rfl) (by rfl) fun w1 hw1 => ?_
   have hcW := (hS3.up hw1).cell k (by omega)
   have hfW := (hS3.up hw1).frozen k
   go_simp
   clear hcW hfW
   refine wpAnyU_done (by kernel_rfl) (fun wF huE => ?_) _
   have hu := hw1
   have gX := (hS1.up hw1).other ⟨w.heap.size + 1 + 1, k, none⟩ (.int .u64 (rsh f s k : Nat)) (by simp; omega)
   have gR := (hS2.up hw1).other ⟨w.heap.size + 1 + 1, k, none⟩ (.int .u64 (rsh f s k : Nat)) (by simp)
   have gM := (hS3.up hw1).set k (rsh f s k)
   have gB := (below_up hSB hw1).setCell (p := ⟨w.heap.size + 1 + 1, k, none⟩) (by simp; omega) (.int .u64 (rsh f s k : Nat))
   replace gX := gX.up huE
   replace gR := gR.up huE
   replace gM := gM.up huE
   replace gB := below_up gB huE
   clear hS1 hS2 hS3 hS4 hS5 hSB hSS hw1 hu huE
   go_wp2
   go_roundw
   case rel =>
    refine ⟨k + 1, upd g k (rsh f s k), by omega, by go_num, fun i hi => ?_, gX, gR, gM, gB⟩
    by_cases e : i = k
    ·rw [e, upd_same]
    ·rw [upd_other _ _ _ e]; exact Hg.out i (by omega)
   case measure => simp [intOf] <;> omega
  ·obtain rfl : k = 16 := by omega
   replace hM := hM.congr Hg.out
   go_wp2_with (first | ((with_reducible apply ld_rowP undW infoW); exact rfl; exact rfl; exact gRow) | ((with_reducible apply st_rowP infoW); exact rfl; exact rfl; exact gRow) | ((with_reducible apply st_rowZ infoW); exact rfl; exact rfl; exact gRow))
   exact bodyPost_ret (res1 rfl undW infoW _ _ rfl gRow) rfl ⟨rfl, gUp⟩
theorem zeros17 : (#[.int .u64 0, .int .u64 0, .int .u64 0, .int .u64 0, .int .u64 0, .int .u64 0, .int .u64 0, .int .u64 0, .int .u64 0, .int .u64 0, .int .u64 0, .int .u64 0, .int .u64 0, .int .u64 0, .int .u64 0, .int .u64 0, .int .u64 0] : Array Value) = cells 17 (fun _ => 0) := by
 unfold cells; kernel_rfl
theorem row_newz17 {w : World} {b : Nat} (t : TypeId) (h : b = w.heap.size) : Row (w.alloc (.cells #[.int .u64 0, .int .u64 0, .int .u64 0, .int .u64 0, .int .u64 0, .int .u64 0, .int .u64 0, .int .u64 0, .int .u64 0, .int .u64 0, .int .u64 0, .int .u64 0, .int .u64 0, .int .u64 0, .int .u64 0, .int .u64 0, .int .u64 0] t)) b t 17 (fun _ => 0) :=
 row_new t 17 _ _ h zeros17
def dc (n : Nat) : Array Value := #[.int .u64 (n / 18446744073709551616 : Nat), .int .u64 (n % 18446744073709551616 : Nat)]
def dbl (n : Nat) : Value := .agg (dc n)
theorem dbl_of {n h l : Nat} (eh : n / 18446744073709551616 = h) (el : n % 18446744073709551616 = l) : dbl n = .agg #[.int .u64 h, .int .u64 l] := by
 unfold dbl dc; rw [eh, el]
theorem undD0 : (match Tryd.prog.underlying 103 with | some (.struct _) => true | _ => false) = true := by kernel_rfl
theorem undD : ∃ fs, Tryd.prog.underlying 103 = some (.struct fs) := by
 have h := undD0
 split at h
 ·exact ⟨_, by assumption⟩
 ·cases h
theorem infoD : (Tryd.prog.info? 103).map (·.size) = some 2 := by kernel_rfl
def DRow (w : World) (b n : Nat) : Prop := Blk w b 103 (dc n)
theorem DRow.up {w w' : World} {b n : Nat} (h : DRow w b n) (hu : Up w w') : DRow w' b n := Blk.up h hu
theorem DRow.lt {w : World} {b n : Nat} (h : DRow w b n) : b < w.heap.size := Blk.lt h
theorem DRow.frozen {w : World} {b n : Nat} (h : DRow w b n) (i : Nat) : w.frozen? ⟨b, i, none⟩ = false := Blk.frozen h i
theorem DRow.high {w : World} {b n : Nat} (h : DRow w b n) : w.cell? ⟨b, 0, none⟩ = some (.int .u64 (n / 18446744073709551616 : Nat)) := Blk.cell h 0 rfl
theorem DRow.setRow {w : World} {b n : Nat} (h : DRow w b n) (m : Nat) : DRow (w.setRow b (dc m)) b m := Blk.setRow h _
theorem DRow.row_other {w : World} {b c n : Nat} {D : Array Value} (h : DRow w b n) (hb : b ≠ c) : DRow (w.setRow c D) b n := Blk.row_other h D hb
theorem drow_newz {w : World} {b : Nat} (h : b = w.heap.size) : DRow (w.alloc (.cells #[.int .u64 0, .int .u64 0] 103)) b 0 := Blk.new _ _ h
theorem drow_same {w : World} {b n m : Nat} (h : DRow w b n) : DRow (w.setRow b (dc m)) b m := h.setRow m
theorem drow_else {w : World} {b c n : Nat} {D : Array Value} (hb : b ≠ c) (h : DRow w b n) : DRow (w.setRow c D) b n := h.row_other hb
theorem drow_alloc {w : World} {b n : Nat} {o : Obj} (h : DRow w b n) : DRow (w.alloc o) b n := h.up (Up.alloc _ _)
theorem drow_up {w w' : World} {b n : Nat} (hu : Up w w') (h : DRow w b n) : DRow w' b n := h.up hu
section
variable {ops : Array Oper} {rest : List Oper} {Q : Exit -> Act -> World -> Prop} {a : Act} {w : World} {d : Option Tmp} {s u : Tmp} {ty : TypeId} {pos : String} {af : Array Edge} {g n : Nat}
theorem ld_D (hx : a.eval (.tmp s) = .pointer (some ⟨g, 0, none⟩)) (hC : DRow w g n) (h : wpList Tryd.prog ops Q rest (a.put d (dbl n)) w) :
   wpList Tryd.prog ops Q ({ dst := d, op := .load 103 (.tmp s), type := ty, pos := pos, after := af, guard := none } :: rest) a w :=
 undD.elim fun _ hu => wpList_load_row rfl _ _ rfl g hx _ (dc n) (0, 0) _ hC hu rfl infoD h
theorem st_DC {C : Array Value} (hx : a.eval (.tmp s) = .pointer (some ⟨g, 0, none⟩)) (hy : a.eval (.tmp u) = .agg C) (h2 : C.size = 2) (h1 : C.all (·.oneCell') = true) (hC : DRow w g n) (h : wpList Tryd.prog ops Q rest (a.put d undef) (w.setRow g C)) :
   wpList Tryd.prog ops Q ({ dst := d, op := .store 103 (.tmp s) (.tmp u), type := ty, pos := pos, after := af, guard := none } :: rest) a w :=
 wpList_plain rfl fun _ hK => wp_store_row _ _ _ rfl g C hx hy _ (dc n) hC (by rw [infoD, h2]) (by rw [h2]; rfl) h1 (hK _ _ h)
theorem st_D {m : Nat} (hx : a.eval (.tmp s) = .pointer (some ⟨g, 0, none⟩)) (hy : a.eval (.tmp u) = dbl m) (hC : DRow w g n) (h : wpList Tryd.prog ops Q rest (a.put d undef) (w.setRow g (dc m))) :
   wpList Tryd.prog ops Q ({ dst := d, op := .store 103 (.tmp s) (.tmp u), type := ty, pos := pos, after := af, guard := none } :: rest) a w :=
 st_DC hx hy (by unfold dc; rfl) (by unfold dc; simp [Value.oneCell']) hC h
end
theorem resD {fn : Func} {p : Tmp} (h : fn.results = #[.cell p 103]) {tmps : Array Value} {w : World} {g : Nat} {C : Array Value} (hp : tmps.getD p undef = .pointer (some ⟨g, 0, none⟩)) (hC : Blk w g 103 C) (h2 : C.size = 2) :
   (results fn tmps).run Tryd.prog w = .ok (.agg C) w := undD.elim fun _ hu => results_cell_row h tmps w g _ C (0, 0) _ hp hC hu rfl (by rw [infoD, h2])
theorem or4 {x r : Nat} (hr : r < 4) : bits BinOp.or IntKind.u64 (IntKind.u64.wrap ((x : Int) * 4)) (r : Nat) = ((4 * x % 18446744073709551616 + r : Nat) : Int) := by
 have e : IntKind.u64.wrap ((x : Int) * 4) = ((2 ^ 2 * (x % 4611686018427387904) : Nat) : Int) := by rw [IntKind.wrap_u64]; omega
 rw [e, bits_or_u64_nat _ _ (by omega) (by omega), or_add (by omega)]
 omega
theorem dmoved_any (n t : Nat) (ht : t < 4) (w : World) :
   Calls Tryd.prog 43 #[dbl n, .int .u64 t] w fun e w' => e = .returned (dbl ((4 * n + t) % 340282366920938463463374607431768211456)) /\ Up w w' := by
 have h1 := or4 (x := n / 18446744073709551616) (r := n % 18446744073709551616 / 4611686018427387904) (by omega)
 have h2 := or4 (x := n % 18446744073709551616) (r := t) (by omega)
 have e : dbl ((4 * n + t) % 340282366920938463463374607431768211456) = .agg #[.int .u64 (4 * (n / 18446744073709551616) % 18446744073709551616 + n % 18446744073709551616 / 4611686018427387904 : Nat), .int .u64 (4 * (n % 18446744073709551616) % 18446744073709551616 + t : Nat)] := dbl_of (by omega) (by omega)
 rw [e, <- h1, <- h2, dbl_of (n := n) rfl rfl]
 clear e h1 h2
 generalize n / 18446744073709551616 = h
 generalize n % 18446744073709551616 = l
 go_enter Tryd.func43, Tryd.ntmps43
 go_wp2
 exact bodyPost_ret (resD rfl rfl (Blk.new _ _ (by simp)) rfl) rfl ⟨rfl, gUp⟩
theorem dbelow_any (n m : Nat) (w : World) :
   Calls Tryd.prog 44 #[dbl n, dbl m] w fun e w' => e = .returned (.bool (decide (n < m))) /\ Up w w' := by
 have e : decide (n < m) = (decide (n / 18446744073709551616 < m / 18446744073709551616) || decide (n / 18446744073709551616 = m / 18446744073709551616) && decide (n % 18446744073709551616 < m % 18446744073709551616)) := by
  rw [Bool.eq_iff_iff]; simp; omega
 rw [e, dbl_of (n := n) rfl rfl, dbl_of (n := m) rfl rfl]
 clear e
 generalize n / 18446744073709551616 = h
 generalize n % 18446744073709551616 = l
 generalize m / 18446744073709551616 = h'
 generalize m % 18446744073709551616 = l'
 by_cases c1 : h < h'
 ·have d1 : decide ((h : Int) < h') = true := decide_eq_true (by omega)
  rw [decide_eq_true c1, Bool.true_or]
  go_enter Tryd.func44, Tryd.ntmps44
  go_wp2
  go_ret
  exact ⟨rfl, gUp⟩
 ·have d1 : decide ((h : Int) < h') = false := decide_eq_false (by omega)
  rw [decide_eq_false c1, Bool.false_or]
  by_cases c2 : h = h'
  ·subst c2
   rw [decide_eq_true rfl, Bool.true_and]
   go_enter Tryd.func44, Tryd.ntmps44
   go_wp2
   go_ret
   exact ⟨rfl, gUp⟩
  ·have d2 : ((h : Int) == h') = false := by simp; omega
   rw [decide_eq_false c2, Bool.false_and]
   go_enter Tryd.func44, Tryd.ntmps44
   go_wp2
   go_ret
   exact ⟨rfl, gUp⟩
theorem dless_any (n m : Nat) (hm : m <= n) (hn : n < 340282366920938463463374607431768211456) (w : World) :
   Calls Tryd.prog 45 #[dbl n, dbl m] w fun e w' => e = .returned (dbl (n - m)) /\ Up w w' := by
 obtain ⟨h, eh⟩ : ∃ h, n / 18446744073709551616 = h := ⟨_, rfl⟩
 obtain ⟨l, el⟩ : ∃ l, n % 18446744073709551616 = l := ⟨_, rfl⟩
 obtain ⟨h', eh'⟩ : ∃ h, m / 18446744073709551616 = h := ⟨_, rfl⟩
 obtain ⟨l', el'⟩ : ∃ l, m % 18446744073709551616 = l := ⟨_, rfl⟩
 obtain ⟨r, c, hs, hr, hc⟩ : ∃ r c : Nat, (∀ w, (callFunc 54 #[.int .u64 (l : Nat), .int .u64 (l' : Nat), .int .u64 0]).run Tryd.prog w = .ok (.value (.tuple #[.int .u64 (r : Nat), .int .u64 (c : Nat)])) w) /\
    r = (l + 18446744073709551616 - l' - 0) % 18446744073709551616 /\ c = (if l < l' + 0 then 1 else 0) := ⟨_, _, run_sub l l' 0 (by omega), rfl, rfl⟩
 obtain ⟨k, hk⟩ : ∃ k : Nat, k = h - h' - c := ⟨_, rfl⟩
 obtain ⟨j, hj⟩ : ∃ j : Nat, j = h - h' := ⟨_, rfl⟩
 have hle : h' + c <= h := by split at hc <;> omega
 have e1 : IntKind.u64.wrap ((h : Int) - h') = (j : Nat) := by rw [IntKind.wrap_u64]; omega
 have e2 : IntKind.u64.wrap ((j : Int) - c) = (k : Nat) := by rw [IntKind.wrap_u64]; omega
 have e3 : (n - m) / 18446744073709551616 = k := by split at hc <;> omega
 have e4 : (n - m) % 18446744073709551616 = r := by split at hc <;> omega
 rw [dbl_of eh el, dbl_of eh' el', dbl_of e3 e4]
 clear eh el eh' el' hr hc hk hj hle e3 e4 hm hn
 go_enter Tryd.func45, Tryd.ntmps45
 go_wp2
 exact bodyPost_ret (resD rfl rfl (Blk.new _ _ (by simp)) rfl) rfl ⟨rfl, gUp⟩
structure RootInv (N i root rest A : Nat) : Prop where
 out : ∃ P F, F = 2 ^ i /\ N * (F * F) = P * 340282366920938463463374607431768211456 + A /\ A < 340282366920938463463374607431768211456 /\ P = root * root + rest /\ rest <= 2 * root /\ root < F
theorem root_start {N : Nat} (h : N < 340282366920938463463374607431768211456) : RootInv N 0 0 0 N := ⟨0, 1, rfl, by omega, h, rfl, by omega, by omega⟩
theorem root_bound {N i root rest A : Nat} (h : RootInv N i root rest A) (hi : i < 64) : root < 9223372036854775808 /\ rest <= 2 * root /\ A < 340282366920938463463374607431768211456 := by
 obtain ⟨P, F, hF, h1, h2, h3, h4, h5⟩ := h.out
 have : F <= 2 ^ 63 := by rw [hF]; exact Nat.pow_le_pow_right (by decide) (by omega)
 omega
theorem root_next {N i root rest A t : Nat} (h : RootInv N i root rest A) (ht : t = A / 85070591730234615865843651857942052864) :
   (4 * root + 1 <= 4 * rest + t -> RootInv N (i + 1) (2 * root + 1) (4 * rest + t - (4 * root + 1)) (4 * A % 340282366920938463463374607431768211456)) /\
   (¬ 4 * root + 1 <= 4 * rest + t -> RootInv N (i + 1) (2 * root) (4 * rest + t) (4 * A % 340282366920938463463374607431768211456)) := by
 obtain ⟨P, F, hF, h1, h2, h3, h4, h5⟩ := h.out
 have hF' : F * 2 = 2 ^ (i + 1) := by rw [hF, Nat.pow_succ]
 have hN : N * (F * 2 * (F * 2)) = (4 * P + t) * 340282366920938463463374607431768211456 + 4 * A % 340282366920938463463374607431768211456 := by
  have : N * (F * 2 * (F * 2)) = 4 * (N * (F * F)) := by grind
  rw [this, h1]
  omega
 have hm : 4 * A % 340282366920938463463374607431768211456 < 340282366920938463463374607431768211456 := Nat.mod_lt _ (by decide)
 refine ⟨fun hc => ⟨4 * P + t, F * 2, hF', hN, hm, ?_, ?_, by omega⟩, fun hc => ⟨4 * P + t, F * 2, hF', hN, hm, ?_, ?_, by omega⟩⟩
 ·have : (2 * root + 1) * (2 * root + 1) = 4 * (root * root) + 4 * root + 1 := by grind
  rw [this, h3]
  omega
 ·omega
 ·have : (2 * root) * (2 * root) = 4 * (root * root) := by grind
  rw [this, h3]
  omega
 ·omega
theorem root_end {N root rest A : Nat} (h : RootInv N 64 root rest A) : root * root <= N /\ N < (root + 1) * (root + 1) /\ root < 18446744073709551616 := by
 obtain ⟨P, F, hF, h1, h2, h3, h4, h5⟩ := h.out
 have hF' : F = 18446744073709551616 := hF
 subst hF'
 have : (root + 1) * (root + 1) = root * root + 2 * root + 1 := by grind
 rw [this]
 generalize root * root = q at *
 omega
theorem root_one {N r s : Nat} (h1 : r * r <= N) (h2 : N < (s + 1) * (s + 1)) : r <= s := by
 rcases Nat.lt_or_ge s r with h | h
 ·have := Nat.mul_le_mul (show s + 1 <= r from h) (show s + 1 <= r from h)
  omega
 ·exact h
set_option maxHeartbeats 1000000 in
theorem fx_root (hi lo r : Nat) (hh : hi < 18446744073709551616) (hl : lo < 18446744073709551616) (h1 : r * r <= 18446744073709551616 * hi + lo) (h2 : 18446744073709551616 * hi + lo < (r + 1) * (r + 1)) (w : World) :
   Calls Tryd.prog 32 #[.int .u64 hi, .int .u64 lo] w fun e w' => e = .returned (.int .u64 (r : Nat)) /\ Up w w' := by
 obtain ⟨N, hN⟩ : ∃ N, N = 18446744073709551616 * hi + lo := ⟨_, rfl⟩
 rw [<- hN] at h1 h2
 have hAA := dbl_of (n := N) (h := hi) (l := lo) (by omega) (by omega)
 have h0 := root_start (N := N) (by omega)
 have HR := hid h1
 have HR2 := hid h2
 have H0 := hid h0
 have hC : (#[.int .u64 hi, .int .u64 lo] : Array Value) = dc N := by unfold dc; rw [show N / 18446744073709551616 = hi by omega, show N % 18446744073709551616 = lo by omega]
 clear h1 h2 h0 hAA hN
 go_enter Tryd.func32, Tryd.ntmps32
 go_wp2_with (first | ((with_reducible apply st_D); exact rfl; exact rfl; (focus (repeat (first | assumption | ((with_reducible apply drow_new); (focus (first | rfl | (simp; done)))) | ((with_reducible apply drow_newz); (focus (first | rfl | (simp; done)))) | (with_reducible apply drow_same) | ((with_reducible apply drow_else); (focus (first | (simp; done) | (simp; omega) | omega))) | (with_reducible apply drow_alloc) | ((with_reducible apply drow_up); assumption))))))
 clear hC
 go_loopw [5, 12] (fun tr ti wr => ∃ (i root rest A : Nat), i <= 64 /\ tr = .int .u64 (root : Nat) /\ ti = .int .i64 (i : Nat) /\ RootInv N i root rest A /\ DRow wr w.heap.size rest /\ DRow wr (w.heap.size + 1) A /\ Below w.heap.size w wr)
  (fun _ ti _ => 64 - (intOf ti).toNat)
 case atStart => exact ⟨0, 0, 0, N, by omega, rfl, rfl, H0.out, (by (repeat (first | assumption | ((with_reducible apply drow_new); (focus (first | rfl | (simp; done)))) | ((with_reducible apply drow_newz); (focus (first | rfl | (simp; done)))) | (with_reducible apply drow_same) | ((with_reducible apply drow_else); (focus (first | (simp; done) | (simp; omega) | omega))) | (with_reducible apply drow_alloc) | ((with_reducible apply drow_up); assumption)))), (by (repeat (first | assumption | ((with_reducible apply drow_new); (focus (first | rfl | (simp; done)))) | ((with_reducible apply drow_newz); (focus (first | rfl | (simp; done)))) | (with_reducible apply drow_same) | ((with_reducible apply drow_else); (focus (first | (simp; done) | (simp; omega) | omega))) | (with_reducible apply drow_alloc) | ((with_reducible apply drow_up); assumption)))), gUp⟩
 case round =>
  obtain ⟨i, root, rest, A, hi, rfl, rfl, hinv, hR, hA, hB⟩ := hrel
  have HI := hid hinv
  by_cases hlt : i < 64
  ·obtain ⟨b1, b2, b3⟩ := root_bound hinv hlt
   obtain ⟨t, ht⟩ : ∃ t, t = A / 85070591730234615865843651857942052864 := ⟨_, rfl⟩
   have hnx := root_next hinv ht
   have hm1 := fun w => dmoved_any rest t (by omega) w
   rw [Nat.mod_eq_of_lt (show 4 * rest + t < 340282366920938463463374607431768211456 by omega)] at hm1
   have hm2 := fun w => dmoved_any A 0 (by decide) w
   rw [Nat.add_zero] at hm2
   have hm3 := fun w => dmoved_any root 1 (by decide) w
   rw [Nat.mod_eq_of_lt (show 4 * root + 1 < 340282366920938463463374607431768211456 by omega), dbl_of (n := root) (h := 0) (l := root) (by omega) (by omega)] at hm3
   rw [show ((0 : Nat) : Int) = 0 from rfl] at hm2 hm3
   rw [show ((1 : Nat) : Int) = 1 from rfl] at hm3
   have hbl := fun w => dbelow_any (4 * rest + t) (4 * root + 1) w
   have hle := fun h w => dless_any (4 * rest + t) (4 * root + 1) h (by omega) w
   have hhi := hA.high
   obtain ⟨AH, hAH⟩ : ∃ x, A / 18446744073709551616 = x := ⟨_, rfl⟩
   rw [hAH] at hhi
   have E0 : (AH : Int) / 4611686018427387904 = (t : Nat) := by omega
   obtain ⟨root2, hr2⟩ : ∃ x, x = 2 * root := ⟨_, rfl⟩
   have E1 : IntKind.u64.wrap ((root : Int) * 2) = (root2 : Nat) := by rw [IntKind.wrap_u64]; omega
   have E2 : bits BinOp.or IntKind.u64 (root2 : Int) 1 = ((2 * root + 1 : Nat) : Int) := by
    have := bits_or_u64_nat root2 1 (by omega) (by omega)
    rw [hr2] at this ⊢
    rw [show ((1 : Nat) : Int) = 1 from rfl] at this
    rw [this, show 2 * root = 2 ^ 1 * root from rfl, or_add (show 1 < 2 ^ 1 by decide)]
   have hffz := hA.frozen 0
   have hlt1 := hA.lt
   rw [<- hr2] at hnx
   generalize 4 * A % 340282366920938463463374607431768211456 = A' at *
   generalize 4 * root + 1 = more at *
   generalize 4 * rest + t = rest' at *
   have HM1 := hid hm1
   have HM2 := hid hm2
   have HM3 := hid hm3
   by_cases hc : more <= rest'
   ·have hd : decide (rest' < more) = false := decide_eq_false (by omega)
    rw [hd] at hbl
    have HB := hid hbl
    have HL := hid (hle hc)
    have HNX := hid (hnx.1 hc)
    have HR3 := hid hr2
    clear hinv b1 b2 b3 ht hnx hm1 hm2 hm3 hbl hle hAH hr2 hc hd
    go_wp2_with (first | ((with_reducible apply ld_D); exact rfl; (focus (repeat (first | assumption | ((with_reducible apply drow_new); (focus (first | rfl | (simp; done)))) | ((with_reducible apply drow_newz); (focus (first | rfl | (simp; done)))) | (with_reducible apply drow_same) | ((with_reducible apply drow_else); (focus (first | (simp; done) | (simp; omega) | omega))) | (with_reducible apply drow_alloc) | ((with_reducible apply drow_up); assumption))))) | ((with_reducible apply st_D); exact rfl; exact rfl; (focus (repeat (first | assumption | ((with_reducible apply drow_new); (focus (first | rfl | (simp; done)))) | ((with_reducible apply drow_newz); (focus (first | rfl | (simp; done)))) | (with_reducible apply drow_same) | ((with_reducible apply drow_else); (focus (first | (simp; done) | (simp; omega) | omega))) | (with_reducible apply drow_alloc) | ((with_reducible apply drow_up); assumption))))) | (go_at_call 43; (first | (with_reducible refine (HM1.out _).mono ?_) | (with_reducible refine (HM2.out _).mono ?_) | (with_reducible refine (HM3.out _).mono ?_)); rintro e w' ⟨rfl, hu⟩; have hsz := hu.size; (try simp at hsz)) | (go_at_call 44; (with_reducible refine (HB.out _).mono ?_); rintro e w' ⟨rfl, hu⟩; have hsz := hu.size; (try simp at hsz)) | (go_at_call 45; (with_reducible refine (HL.out _).mono ?_); rintro e w' ⟨rfl, hu⟩; have hsz := hu.size; (try simp at hsz)))
    refine ⟨⟨i + 1, 2 * root + 1, rest' - more, A', by omega, by go_num, by go_num, (by rw [<- HR3.out]; exact HNX.out), (by repeat (first | assumption | ((with_reducible apply drow_new); (focus (first | rfl | (simp; done)))) | ((with_reducible apply drow_newz); (focus (first | rfl | (simp; done)))) | (with_reducible apply drow_same) | ((with_reducible apply drow_else); (focus (first | (simp; done) | (simp; omega) | omega))) | (with_reducible apply drow_alloc) | ((with_reducible apply drow_up); assumption))), (by repeat (first | assumption | ((with_reducible apply drow_new); (focus (first | rfl | (simp; done)))) | ((with_reducible apply drow_newz); (focus (first | rfl | (simp; done)))) | (with_reducible apply drow_same) | ((with_reducible apply drow_else); (focus (first | (simp; done) | (simp; omega) | omega))) | (with_reducible apply drow_alloc) | ((with_reducible apply drow_up); assumption))), gUp⟩, ?_⟩
    simp [intOf] <;> omega
   ·have hd : decide (rest' < more) = true := decide_eq_true (by omega)
    rw [hd] at hbl
    have HB := hid hbl
    have HNX := hid (hnx.2 hc)
    have HR3 := hid hr2
    clear hinv b1 b2 b3 ht hnx hm1 hm2 hm3 hbl hle hAH hr2 hc hd
    go_wp2_with (first | ((with_reducible apply ld_D); exact rfl; (focus (repeat (first | assumption | ((with_reducible apply drow_new); (focus (first | rfl | (simp; done)))) | ((with_reducible apply drow_newz); (focus (first | rfl | (simp; done)))) | (with_reducible apply drow_same) | ((with_reducible apply drow_else); (focus (first | (simp; done) | (simp; omega) | omega))) | (with_reducible apply drow_alloc) | ((with_reducible apply drow_up); assumption))))) | ((with_reducible apply st_D); exact rfl; exact rfl; (focus (repeat (first | assumption | ((with_reducible apply drow_new); (focus (first | rfl | (simp; done)))) | ((with_reducible apply drow_newz); (focus (first | rfl | (simp; done)))) | (with_reducible apply drow_same) | ((with_reducible apply drow_else); (focus (first | (simp; done) | (simp; omega) | omega))) | (with_reducible apply drow_alloc) | ((with_reducible apply drow_up); assumption))))) | (go_at_call 43; (first | (with_reducible refine (HM1.out _).mono ?_) | (with_reducible refine (HM2.out _).mono ?_) | (with_reducible refine (HM3.out _).mono ?_)); rintro e w' ⟨rfl, hu⟩; have hsz := hu.size; (try simp at hsz)) | (go_at_call 44; (with_reducible refine (HB.out _).mono ?_); rintro e w' ⟨rfl, hu⟩; have hsz := hu.size; (try simp at hsz)))
    refine ⟨⟨i + 1, root2, rest', A', by omega, rfl, by go_num, HNX.out, (by repeat (first | assumption | ((with_reducible apply drow_new); (focus (first | rfl | (simp; done)))) | ((with_reducible apply drow_newz); (focus (first | rfl | (simp; done)))) | (with_reducible apply drow_same) | ((with_reducible apply drow_else); (focus (first | (simp; done) | (simp; omega) | omega))) | (with_reducible apply drow_alloc) | ((with_reducible apply drow_up); assumption))), (by repeat (first | assumption | ((with_reducible apply drow_new); (focus (first | rfl | (simp; done)))) | ((with_reducible apply drow_newz); (focus (first | rfl | (simp; done)))) | (with_reducible apply drow_same) | ((with_reducible apply drow_else); (focus (first | (simp; done) | (simp; omega) | omega))) | (with_reducible apply drow_alloc) | ((with_reducible apply drow_up); assumption))), gUp⟩, ?_⟩
    simp [intOf] <;> omega
  ·obtain rfl : i = 64 := by omega
   obtain ⟨e1, e2, e3⟩ := root_end hinv
   have he : root = r := Nat.le_antisymm (root_one e1 HR2.out) (root_one HR.out e2)
   subst he
   clear hinv e1 e2 e3 HR HR2
   go_wp2
   go_ret
   exact ⟨rfl, gUp⟩
end Go.Proofs.YtbmlkimgjkdaiaaDoor
