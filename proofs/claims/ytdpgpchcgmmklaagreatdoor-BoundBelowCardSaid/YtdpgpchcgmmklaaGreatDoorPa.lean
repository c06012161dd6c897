import Derived.OrdersHeld
import Derived.Below
import Derived.Laws.Rows
import Derived.Laws.Tables
import Derived.Test.YtdpgpchcgmmklaaGreatDoorProg
import Derived.WalkKit
import Derived.WalkSpells
import Derived.WalkLawsBesides
import Derived.Deep.QuietTactic
import Derived.BigQuiet
import Derived.ChangeKeysEq
import Derived.Shelf.Small.Bits
import Derived.Shelf.Strconv.Itoa0
import Derived.Shelf.Bits.Mul64
import Derived.Lib.ItoaNum
import Derived.Deep.RegionWith
import Derived.LaidEql
import Derived.WideLaws
import Derived.Stop.Asserts
import Derived.Defers
import Derived.Recover
import Derived.Deep.LoopGhost
import Derived.RowKitTokens
namespace Go.Proofs.YtdpgpchcgmmklaaGreatDoor
def bp : Nat -> Nat
 | 0 => 1
 | k + 1 => bp k * 18446744073709551616
def sumL (f : Nat -> Nat) : Nat -> Nat
 | 0 => 0
 | k + 1 => sumL f k + f k * bp k
def limb (x i : Nat) : Nat := x / bp i % 18446744073709551616
def upd (f : Nat -> Nat) (k v : Nat) : Nat -> Nat := fun i => if i = k then v else f i
theorem bp_zero : bp 0 = 1 := rfl
theorem bp_succ (k : Nat) : bp (k + 1) = bp k * 18446744073709551616 := rfl
theorem bp_pos (k : Nat) : 0 < bp k := by
 induction k with
 | zero => decide
 | succ k ih => rw [bp_succ]; omega
theorem bp_add (i k : Nat) : bp (i + k) = bp i * bp k := by
 induction k with
 | zero => simp [bp_zero]
 | succ k ih => rw [<- Nat.add_assoc, bp_succ, bp_succ, ih, Nat.mul_assoc]
theorem bp_mono {i k : Nat} (h : i <= k) : bp i <= bp k := by
 obtain ⟨d, rfl⟩ := Nat.exists_eq_add_of_le h
 rw [bp_add]
 exact Nat.le_mul_of_pos_right _ (bp_pos d)
theorem sumL_zero (f : Nat -> Nat) : sumL f 0 = 0 := rfl
theorem sumL_succ (f : Nat -> Nat) (k : Nat) : sumL f (k + 1) = sumL f k + f k * bp k := rfl
theorem sumL_congr {f g : Nat -> Nat} {k : Nat} (h : ∀ i, i < k -> f i = g i) : sumL f k = sumL g k := by
 induction k with
 | zero => rfl
 | succ k ih => rw [sumL_succ, sumL_succ, ih fun i hi => h i (by omega), h k (by omega)]
theorem sumL_lt {f : Nat -> Nat} {k : Nat} (h : ∀ i, i < k -> f i < 18446744073709551616) : sumL f k < bp k := by
 induction k with
 | zero => simp [sumL_zero, bp_zero]
 | succ k ih =>
   have h1 := ih fun i hi => h i (by omega)
   have h2 := h k (by omega)
   rw [sumL_succ, bp_succ]
   have h3 : f k * bp k <= 18446744073709551615 * bp k := Nat.mul_le_mul_right _ (by omega)
   omega
theorem limb_lt (x i : Nat) : limb x i < 18446744073709551616 := Nat.mod_lt _ (by decide)
theorem sumL_limb (x k : Nat) : sumL (limb x) k = x % bp k := by
 induction k with
 | zero => rw [sumL_zero, bp_zero, Nat.mod_one]
 | succ k ih =>
   rw [sumL_succ, ih, bp_succ, limb, Nat.mod_mul, Nat.mul_comm (bp k)]
theorem limb_sumL {f : Nat -> Nat} {n i : Nat} (h : ∀ i, i < n -> f i < 18446744073709551616) (hi : i < n) : limb (sumL f n) i = f i := by
 induction n with
 | zero => omega
 | succ n ih =>
   have hn := sumL_lt (f := f) (k := n) fun i hi => h i (by omega)
   by_cases e : i = n
   ·subst e
    rw [limb, sumL_succ, Nat.add_mul_div_right _ _ (bp_pos i), Nat.div_eq_of_lt hn, Nat.zero_add, Nat.mod_eq_of_lt (h i hi)]
   ·have hin : i < n := by omega
    rw [<- ih (fun i hi => h i (by omega)) hin, sumL_succ]
    unfold limb
    obtain ⟨d, rfl⟩ := Nat.exists_eq_add_of_le (show i + 1 <= n by omega)
    rw [bp_add, bp_succ, show sumL f (i + 1 + d) + f (i + 1 + d) * (bp i * 18446744073709551616 * bp d) = sumL f (i + 1 + d) + (f (i + 1 + d) * bp d * 18446744073709551616) * bp i by grind, Nat.add_mul_div_right _ _ (bp_pos i), Nat.add_mul_mod_self_right]
theorem limb_of_small {x i k : Nat} (h : x < bp k) (hi : k <= i) : limb x i = 0 := by
 unfold limb
 rw [Nat.div_eq_of_lt (Nat.lt_of_lt_of_le h (bp_mono hi)), Nat.zero_mod]
theorem upd_same (f : Nat -> Nat) (k v : Nat) : upd f k v k = v := by simp [upd]
theorem upd_other (f : Nat -> Nat) (k v : Nat) {i : Nat} (h : i ≠ k) : upd f k v i = f i := by simp [upd, h]
theorem upd_lt {f : Nat -> Nat} {k v n m : Nat} (h : ∀ i, i < n -> f i < m) (hv : v < m) : ∀ i, i < n -> upd f k v i < m := by
 intro i hi
 unfold upd
 split
 ·exact hv
 ·exact h i hi
theorem sumL_upd_above (f : Nat -> Nat) {k v n : Nat} (h : n <= k) : sumL (upd f k v) n = sumL f n :=
 sumL_congr fun i hi => upd_other f k v (by omega)
theorem sumL_upd_succ (f : Nat -> Nat) (k v : Nat) : sumL (upd f k v) (k + 1) = sumL f k + v * bp k := by
 rw [sumL_succ, sumL_upd_above f (Nat.le_refl k), upd_same]
theorem sub_step (s x y r : Nat) (c c' bpk sx sy : Nat) (h : s + sy = sx + c * bpk) (hr : r + y + c = x + c' * 18446744073709551616) :
   (s + r * bpk) + (sy + y * bpk) = (sx + x * bpk) + c' * (bpk * 18446744073709551616) := by
 have : (r + y + c) * bpk = (x + c' * 18446744073709551616) * bpk := by rw [hr]
 grind
theorem sumL_lt_of {f g : Nat -> Nat} {n i : Nat} (hf : ∀ j, j < n -> f j < 18446744073709551616) (hi : i < n) (ht : ∀ j, i < j -> j < n -> f j = g j) (h : f i < g i) : sumL f n < sumL g n := by
 induction n with
 | zero => omega
 | succ n ih =>
   rw [sumL_succ, sumL_succ]
   by_cases e : i = n
   ·subst e
    have h1 := sumL_lt (f := f) (k := i) fun j hj => hf j (by omega)
    have h2 : (f i + 1) * bp i <= g i * bp i := Nat.mul_le_mul_right _ h
    rw [Nat.add_mul] at h2
    omega
   ·have := ih (fun j hj => hf j (by omega)) (by omega) fun j h1 h2 => ht j h1 (by omega)
    rw [ht n (by omega) (by omega)]
    omega
def lenL (f : Nat -> Nat) : Nat -> Nat
 | 0 => 0
 | k + 1 => if f k = 0 then lenL f k else k + 1
theorem lenL_le (f : Nat -> Nat) (n : Nat) : lenL f n <= n := by
 induction n with
 | zero => exact Nat.le_refl _
 | succ n ih => unfold lenL; split <;> omega
theorem lenL_succ (f : Nat -> Nat) (n : Nat) : lenL f (n + 1) = if f n = 0 then lenL f n else n + 1 := rfl
theorem lenL_top (f : Nat -> Nat) (n : Nat) (h : 0 < lenL f n) : f (lenL f n - 1) ≠ 0 := by
 induction n with
 | zero => simp [lenL] at h
 | succ n ih =>
   rw [lenL_succ] at *
   by_cases h0 : f n = 0
   ·rw [if_pos h0] at *; exact ih h
   ·rw [if_neg h0] at *; exact h0
theorem lenL_sum (f : Nat -> Nat) (n : Nat) : sumL f (lenL f n) = sumL f n := by
 induction n with
 | zero => rfl
 | succ n ih =>
   unfold lenL
   split
   ·rename_i h0; rw [ih, sumL_succ, h0]; omega
   ·rfl
theorem lenL_of (f : Nat -> Nat) {n k : Nat} (hk : k <= n) (h0 : ∀ i, k <= i -> i < n -> f i = 0) (ht : k = 0 \/ f (k - 1) ≠ 0) : lenL f n = k := by
 induction n with
 | zero => unfold lenL; omega
 | succ n ih =>
   unfold lenL
   by_cases e : k = n + 1
   ·subst e
    rw [if_neg]
    rcases ht with ht | ht
    ·omega
    ·exact ht
   ·rw [if_pos (h0 n (by omega) (by omega))]
    exact ih (by omega) fun i h1 h2 => h0 i h1 (by omega)
theorem lenL_congr {f g : Nat -> Nat} {n : Nat} (h : ∀ i, i < n -> f i = g i) : lenL f n = lenL g n := by
 induction n with
 | zero => rfl
 | succ n ih => unfold lenL; rw [h n (by omega), ih fun i hi => h i (by omega)]
theorem bp_le_of_len (f : Nat -> Nat) (n : Nat) (h : 0 < lenL f n) : bp (lenL f n - 1) <= sumL f n := by
 rw [<- lenL_sum]
 have ht := lenL_top f n h
 generalize lenL f n = k at *
 obtain ⟨j, rfl⟩ : ∃ j, k = j + 1 := ⟨k - 1, by omega⟩
 rw [sumL_succ]
 simp only [Nat.add_sub_cancel] at *
 have : 1 * bp j <= f j * bp j := Nat.mul_le_mul_right _ (by omega)
 omega
theorem lenL_zero_iff (f : Nat -> Nat) (n : Nat) : lenL f n = 0 ↔ sumL f n = 0 := by
 constructor
 ·intro h
  rw [<- lenL_sum, h]; rfl
 ·intro h
  by_cases e : lenL f n = 0
  ·exact e
  ·have := bp_le_of_len f n (by omega)
   have := bp_pos (lenL f n - 1)
   omega
theorem sub_final {s x y c b : Nat} (h : s + y = x + c * b) (hs : s < b) (_ : x < b) (hy : y < b) : s = (x + b - y) % b := by
 have hc : c = 0 \/ c = 1 := by
  rcases Nat.lt_or_ge c 2 with h1 | h1
  ·omega
  ·have : 2 * b <= c * b := Nat.mul_le_mul_right _ h1
   omega
 rcases hc with rfl | rfl
 ·rw [show x + b - y = s + b from by omega, Nat.add_mod_right, Nat.mod_eq_of_lt hs]
 ·rw [show x + b - y = s from by omega, Nat.mod_eq_of_lt hs]
def ordZ (x y : Nat) : Int := if x < y then -1 else if y < x then 1 else 0
def hb : Nat := bp 15 * 9223372036854775808
theorem bp16 : bp 16 = 2 * hb := by unfold hb; rw [bp_succ 15]; omega
theorem hb_pos : 0 < hb := by have := bp_pos 16; rw [bp16] at this; omega
theorem top_iff {x : Nat} (hx : x < bp 16) : 9223372036854775808 <= limb x 15 ↔ hb <= x := by
 unfold limb hb
 have h1 : x / bp 15 < 18446744073709551616 := by
  rw [Nat.div_lt_iff_lt_mul (bp_pos 15), Nat.mul_comm]
  exact hx
 rw [Nat.mod_eq_of_lt h1, Nat.le_div_iff_mul_le (bp_pos 15), Nat.mul_comm]
def InR (z : Int) : Prop := -(hb : Int) <= z /\ z < hb
instance (z : Int) : Decidable (InR z) := by unfold InR; infer_instance
def enc (z : Int) : Nat := (z % (bp 16 : Int)).toNat
theorem enc_lt (z : Int) : enc z < bp 16 := by
 unfold enc
 have h := bp_pos 16
 have := Int.emod_lt_of_pos z (show (0 : Int) < (bp 16 : Int) by omega)
 have := Int.emod_nonneg z (show ((bp 16 : Nat) : Int) ≠ 0 by omega)
 omega
theorem enc_nn {z : Int} (h : InR z) (h0 : 0 <= z) : enc z = z.natAbs /\ enc z < hb := by
 obtain ⟨_, h2⟩ := h
 have h3 := bp16
 unfold enc
 rw [Int.emod_eq_of_lt h0 (by omega)]
 omega
theorem enc_neg {z : Int} (h : InR z) (h0 : z < 0) : enc z = bp 16 - z.natAbs /\ hb <= enc z := by
 obtain ⟨h1, h2⟩ := h
 have h3 := bp16
 have h4 : z % (bp 16 : Int) = z + bp 16 := by
  rw [<- Int.add_emod_right, Int.emod_eq_of_lt (by omega) (by omega)]
 unfold enc
 rw [h4]
 omega
theorem enc_inj {a b : Int} (ha : InR a) (hb' : InR b) (h : enc a = enc b) : a = b := by
 have h3 := bp16
 have h1 : (a % (bp 16 : Int)).toNat = (b % (bp 16 : Int)).toNat := h
 by_cases a0 : 0 <= a
 ·have := enc_nn ha a0
  by_cases b0 : 0 <= b
  ·have := enc_nn hb' b0; omega
  ·have := enc_neg hb' (by omega); omega
 ·have := enc_neg ha (by omega)
  by_cases b0 : 0 <= b
  ·have := enc_nn hb' b0; omega
  ·have := enc_neg hb' (by omega)
   obtain ⟨_, _⟩ := ha; obtain ⟨_, _⟩ := hb'; omega
theorem enc_neg_iff {z : Int} (h : InR z) : hb <= enc z ↔ z < 0 := by
 by_cases h0 : 0 <= z
 ·have := enc_nn h h0; omega
 ·have := enc_neg h (by omega); omega
theorem enc_zero : enc 0 = 0 := by unfold enc; simp
theorem enc_sub (a b : Int) : (enc a + bp 16 - enc b) % bp 16 = enc (a - b) := by
 have h := bp_pos 16
 have hlb := enc_lt b
 have ha := Int.emod_nonneg a (show ((bp 16 : Nat) : Int) ≠ 0 by omega)
 have hb' := Int.emod_nonneg b (show ((bp 16 : Nat) : Int) ≠ 0 by omega)
 unfold enc at *
 rw [Int.sub_emod a b]
 generalize a % (bp 16 : Int) = u at *
 generalize b % (bp 16 : Int) = v at *
 obtain ⟨u, rfl⟩ := Int.eq_ofNat_of_zero_le ha
 obtain ⟨v, rfl⟩ := Int.eq_ofNat_of_zero_le hb'
 simp only [Int.toNat_natCast] at *
 rw [<- Int.add_emod_right, show (u : Int) - (v : Int) + (bp 16 : Int) = ((u + bp 16 - v : Nat) : Int) by omega, <- Int.natCast_emod, Int.toNat_natCast]
theorem enc_natAbs {z : Int} (h : InR z) : z.natAbs <= hb /\ z.natAbs < bp 16 := by
 have h3 := bp16; have := hb_pos; obtain ⟨_, _⟩ := h; omega
theorem InR.out {z : Int} (h : InR z) : -(hb : Int) <= z /\ z < hb := h
theorem InR.mk' {z : Int} (h : -(hb : Int) <= z /\ z < hb) : InR z := h
attribute [irreducible] bp hb InR enc limb sumL
end Go.Proofs.YtdpgpchcgmmklaaGreatDoor
namespace Go.Proofs.YtdpgpchcgmmklaaGreatDoor
def sk (i r : Nat) : Nat := if r < i then r else r + 1
def sg (i : Nat) : Int := if i % 2 = 0 then 1 else -1
def sumN : Nat -> (Nat -> Int) -> Int
 | 0, _ => 0
 | n + 1, f => sumN n f + f n
def det : Nat -> (Nat -> Nat -> Int) -> Int
 | 0, _ => 1
 | n + 1, A => sumN (n + 1) fun i => sg i * A i 0 * det n fun r c => A (sk i r) (c + 1)
theorem sumN_congr {n : Nat} {f g : Nat -> Int} (h : ∀ i, i < n -> f i = g i) : sumN n f = sumN n g := by
 induction n with
 | zero => rfl
 | succ n ih => unfold sumN; rw [ih fun i hi => h i (by omega), h n (by omega)]
theorem sumN_lin {n : Nat} {f g k : Nat -> Int} {x y : Int} (h : ∀ i, i < n -> f i = x * g i + y * k i) : sumN n f = x * sumN n g + y * sumN n k := by
 induction n with
 | zero => simp [sumN]
 | succ n ih => unfold sumN; rw [ih fun i hi => h i (by omega), h n (by omega)]; grind
theorem sumN_zero {n : Nat} {f : Nat -> Int} (h : ∀ i, i < n -> f i = 0) : sumN n f = 0 := by
 induction n with
 | zero => rfl
 | succ n ih => unfold sumN; rw [ih fun i hi => h i (by omega), h n (by omega)]; rfl
theorem sumN_one {n p : Nat} {f : Nat -> Int} (hp : p < n) (h : ∀ i, i < n -> i ≠ p -> f i = 0) : sumN n f = f p := by
 induction n with
 | zero => omega
 | succ n ih =>
   unfold sumN
   by_cases e : p = n
   ·subst e; rw [sumN_zero fun i hi => h i (by omega) (by omega)]; omega
   ·rw [ih (by omega) fun i hi => h i (by omega), h n (by omega) (by omega)]; omega
theorem sumN_two {n p : Nat} {f : Nat -> Int} (hp : p + 1 < n) (h : ∀ i, i < n -> i ≠ p -> i ≠ p + 1 -> f i = 0) (h2 : f p + f (p + 1) = 0) : sumN n f = 0 := by
 induction n with
 | zero => omega
 | succ n ih =>
   unfold sumN
   by_cases e : p + 1 = n
   ·rw [<- e, sumN_one (f := f) (p := p) (n := p + 1) (by omega) fun i hi h1 => h i (by omega) h1 (by omega)]; exact h2
   ·rw [ih (by omega) fun i hi => h i (by omega), h n (by omega) (by omega) (by omega)]; rfl
theorem sumN_head {n : Nat} {f : Nat -> Int} : sumN (n + 1) f = f 0 + sumN n fun i => f (i + 1) := by
 induction n with
 | zero => simp [sumN]
 | succ n ih => rw [show sumN (n + 1 + 1) f = sumN (n + 1) f + f (n + 1) from rfl, ih]; show _ = f 0 + (sumN n _ + f (n + 1)); omega
theorem sk_lt {n i r : Nat} (hr : r < n) : sk i r < n + 1 := by unfold sk; split <;> omega
theorem sk_ne (i r : Nat) : sk i r ≠ i := by unfold sk; split <;> omega
theorem det_congr {n : Nat} {A B : Nat -> Nat -> Int} (h : ∀ i j, i < n -> j < n -> A i j = B i j) : det n A = det n B := by
 induction n generalizing A B with
 | zero => rfl
 | succ n ih =>
   unfold det
   exact sumN_congr fun i hi => by rw [h i 0 hi (by omega), ih fun r c hr hc => h _ _ (sk_lt hr) (by omega)]
def updR (A : Nat -> Nat -> Int) (p : Nat) (u : Nat -> Int) : Nat -> Nat -> Int := fun r c => if r = p then u c else A r c
theorem updR_minor {A : Nat -> Nat -> Int} {p i : Nat} {u : Nat -> Int} (h : i ≠ p) :
   (fun r c => updR A p u (sk i r) (c + 1)) = updR (fun r c => A (sk i r) (c + 1)) (if p < i then p else p - 1) fun c => u (c + 1) := by
 funext r c
 unfold updR
 have : sk i r = p ↔ r = (if p < i then p else p - 1) := by unfold sk; split <;> split <;> omega
 by_cases e : sk i r = p
 ·rw [if_pos e, if_pos (this.1 e)]
 ·rw [if_neg e, if_neg (fun x => e (this.2 x))]
theorem updR_own {A : Nat -> Nat -> Int} {p : Nat} {u : Nat -> Int} :
   (fun r c => updR A p u (sk p r) (c + 1)) = fun r c => A (sk p r) (c + 1) := by
 funext r c
 unfold updR
 rw [if_neg (sk_ne p r)]
theorem det_lin {n p : Nat} (hp : p < n) (A : Nat -> Nat -> Int) (x y : Int) (u v : Nat -> Int) :
   det n (updR A p fun c => x * u c + y * v c) = x * det n (updR A p u) + y * det n (updR A p v) := by
 induction n generalizing A p u v with
 | zero => omega
 | succ n ih =>
   unfold det
   refine sumN_lin fun i hi => ?_
   by_cases e : i = p
   ·subst e
    rw [updR_own, updR_own, updR_own]
    unfold updR
    simp only [if_true]
    grind
   ·rw [updR_minor e, updR_minor e, updR_minor e, ih (p := if p < i then p else p - 1) (by split <;> omega)]
    unfold updR
    rw [if_neg e, if_neg e, if_neg e]
    grind
theorem det_next {n p : Nat} (hp : p + 1 < n) {A : Nat -> Nat -> Int} (h : ∀ c, A p c = A (p + 1) c) : det n A = 0 := by
 induction n generalizing A p with
 | zero => omega
 | succ n ih =>
   unfold det
   refine sumN_two hp (fun i hi h1 h2 => ?_) ?_
   ·by_cases e : i < p
    ·rw [ih (p := p - 1) (by omega) (fun c => by
      rw [show sk i (p - 1) = p from by unfold sk; split <;> omega, show sk i (p - 1 + 1) = p + 1 from by unfold sk; split <;> omega]; exact h _)]
     grind
    ·rw [ih (p := p) (by omega) (fun c => by
      rw [show sk i p = p from by unfold sk; split <;> omega, show sk i (p + 1) = p + 1 from by unfold sk; split <;> omega]; exact h _)]
     grind
   ·have e : (fun r c => A (sk p r) (c + 1)) = fun r c => A (sk (p + 1) r) (c + 1) := by
     funext r c
     by_cases e : r = p
     ·rw [show sk p r = p + 1 from by unfold sk; split <;> omega, show sk (p + 1) r = p from by unfold sk; split <;> omega, h]
     ·rw [show sk p r = sk (p + 1) r from by unfold sk; split <;> split <;> omega]
    rw [e, h 0]
    have e2 : sg (p + 1) = - sg p := by unfold sg; split <;> split <;> omega
    rw [e2]
    grind
theorem updR_comm {A : Nat -> Nat -> Int} {p q : Nat} (h : p ≠ q) (u v : Nat -> Int) : updR (updR A p u) q v = updR (updR A q v) p u := by
 funext r c
 unfold updR
 split <;> split <;> first | rfl | omega
theorem updR_self (A : Nat -> Nat -> Int) (p : Nat) : updR A p (A p) = A := by
 funext r c
 unfold updR
 split <;> simp_all
theorem updR_at (A : Nat -> Nat -> Int) (p : Nat) (u : Nat -> Int) : updR A p u p = u := by
 funext c
 unfold updR
 simp
theorem updR_off {A : Nat -> Nat -> Int} {p r : Nat} (u : Nat -> Int) (h : r ≠ p) : updR A p u r = A r := by
 funext c
 unfold updR
 simp [h]
theorem swap_of {n p q : Nat} (hp : p < n) (hq : q < n) (hpq : p ≠ q)
   (h0 : ∀ A : Nat -> Nat -> Int, (∀ c, A p c = A q c) -> det n A = 0) (A : Nat -> Nat -> Int) :
   det n (updR (updR A p (A q)) q (A p)) = - det n A := by
 have key : ∀ u v : Nat -> Int, det n (updR (updR A p u) q v) + det n (updR (updR A p v) q u) = 0 := fun u v => by
  have z1 := h0 (updR (updR A p fun c => 1 * u c + 1 * v c) q fun c => 1 * u c + 1 * v c) (fun c => by rw [updR_off _ hpq, updR_at, updR_at])
  have z2 := h0 (updR (updR A p u) q u) (fun c => by rw [updR_off _ hpq, updR_at, updR_at])
  have z3 := h0 (updR (updR A p v) q v) (fun c => by rw [updR_off _ hpq, updR_at, updR_at])
  rw [det_lin hq, updR_comm hpq, det_lin hp, updR_comm hpq, det_lin hp, updR_comm (Ne.symm hpq), updR_comm (Ne.symm hpq), updR_comm (Ne.symm hpq), updR_comm (Ne.symm hpq)] at z1
  omega
 have := key (A p) (A q)
 rw [updR_self] at this
 rw [show updR A q (A q) = A from updR_self A q] at this
 omega
theorem det_same {n p q : Nat} (hpq : p < q) (hq : q < n) {A : Nat -> Nat -> Int} (h : ∀ c, A p c = A q c) : det n A = 0 := by
 obtain ⟨d, rfl⟩ : ∃ d, q = p + 1 + d := ⟨q - p - 1, by omega⟩
 induction d generalizing A with
 | zero => exact det_next hq h
 | succ d ih =>
   have hs := swap_of (n := n) (p := p + 1 + d) (q := p + 1 + d + 1) (by omega) (by omega) (by omega) (fun A hA => det_next (by omega) hA) A
   have hz := ih (A := updR (updR A (p + 1 + d) (A (p + 1 + d + 1))) (p + 1 + d + 1) (A (p + 1 + d))) (by omega) (by omega) (fun c => by
    rw [updR_off _ (by omega), updR_off _ (by omega), updR_off _ (by omega), updR_at]; exact h c)
   omega
theorem det_twice {n p q : Nat} (hpq : p ≠ q) (hp : p < n) (hq : q < n) {A : Nat -> Nat -> Int} (h : ∀ c, A p c = A q c) : det n A = 0 := by
 by_cases e : p < q
 ·exact det_same e hq h
 ·exact det_same (show q < p by omega) hp fun c => (h c).symm
theorem det_row {n p q : Nat} (hp : p < n) (hq : q < n) (hpq : p ≠ q) (A : Nat -> Nat -> Int) (x y : Int) :
   det n (updR A p fun c => x * A p c + y * A q c) = x * det n A := by
 rw [det_lin hp, updR_self, det_twice hpq hp hq (A := updR A p (A q)) (fun c => by rw [updR_at, updR_off _ (Ne.symm hpq)])]
 omega
def gone (k : Nat) (A : Nat -> Nat -> Int) : Nat -> Nat -> Int := fun r c => if 0 < r /\ r <= k then A 0 0 * A r c - A r 0 * A 0 c else A r c
theorem det_gone {n : Nat} (A : Nat -> Nat -> Int) : ∀ k, k <= n -> det (n + 1) (gone k A) = A 0 0 ^ k * det (n + 1) A := by
 intro k
 induction k with
 | zero => intro _; rw [show gone 0 A = A from by funext r c; unfold gone; rw [if_neg (by omega)]]; simp
 | succ k ih =>
   intro hk
   have e : gone (k + 1) A = updR (gone k A) (k + 1) fun c => A 0 0 * gone k A (k + 1) c + (- A (k + 1) 0) * gone k A 0 c := by
    funext r c
    unfold updR
    by_cases e : r = k + 1
    ·subst e
     rw [if_pos rfl]
     have z1 : gone (k + 1) A (k + 1) c = A 0 0 * A (k + 1) c - A (k + 1) 0 * A 0 c := by unfold gone; rw [if_pos (by omega)]
     have z2 : gone k A (k + 1) c = A (k + 1) c := by unfold gone; rw [if_neg (by omega)]
     have z3 : gone k A 0 c = A 0 c := by unfold gone; rw [if_neg (by omega)]
     show _ = A 0 0 * gone k A (k + 1) c + (- A (k + 1) 0) * gone k A 0 c
     rw [z1, z2, z3]
     grind
    ·rw [if_neg e]
     unfold gone
     by_cases e2 : 0 < r /\ r <= k
     ·rw [if_pos e2, if_pos (by omega)]
     ·rw [if_neg e2, if_neg (by omega)]
   rw [e, det_row (by omega) (by omega) (by omega), ih (by omega), Int.pow_succ]
   grind
def chio (A : Nat -> Nat -> Int) : Nat -> Nat -> Int := fun i j => A 0 0 * A (i + 1) (j + 1) - A (i + 1) 0 * A 0 (j + 1)
theorem det_chio (n : Nat) (A : Nat -> Nat -> Int) : A 0 0 ^ n * det (n + 1) A = A 0 0 * det n (chio A) := by
 rw [<- det_gone A n (Nat.le_refl n)]
 have h : det (n + 1) (gone n A) = sumN (n + 1) fun i => sg i * gone n A i 0 * det n fun r c => gone n A (sk i r) (c + 1) := rfl
 rw [h, sumN_one (p := 0) (by omega) (fun i hi h0 => by
  rw [show gone n A i 0 = 0 from by unfold gone; rw [if_pos (by omega)]; grind]; simp)]
 have e : det n (fun r c => gone n A (sk 0 r) (c + 1)) = det n (chio A) := det_congr fun r c hr hc => by
  rw [show sk 0 r = r + 1 from rfl]; unfold gone chio; rw [if_pos (by omega)]
 rw [e, show gone n A 0 0 = A 0 0 from by unfold gone; rw [if_neg (by omega)], show sg 0 = 1 from rfl, Int.one_mul]
theorem sumN_abs {n : Nat} {f : Nat -> Int} {b : Nat} (h : ∀ i, i < n -> (f i).natAbs <= b) : (sumN n f).natAbs <= n * b := by
 induction n with
 | zero => simp [sumN]
 | succ n ih =>
   have h1 := ih fun i hi => h i (by omega)
   have h2 := h n (by omega)
   have h3 := Int.natAbs_add_le (sumN n f) (f n)
   show (sumN n f + f n).natAbs <= _
   rw [Nat.succ_mul]
   omega
def fct : Nat -> Nat
 | 0 => 1
 | n + 1 => (n + 1) * fct n
theorem det_abs {n m : Nat} {A : Nat -> Nat -> Int} (h : ∀ i j, i < n -> j < n -> (A i j).natAbs <= m) : (det n A).natAbs <= fct n * m ^ n := by
 induction n generalizing A with
 | zero => simp [det, fct]
 | succ n ih =>
   have h1 : (det (n + 1) A).natAbs <= (n + 1) * (m * (fct n * m ^ n)) := sumN_abs fun i hi => by
    have := ih (A := fun r c => A (sk i r) (c + 1)) fun r c hr hc => h _ _ (sk_lt hr) (by omega)
    rw [Int.natAbs_mul, Int.natAbs_mul, show (sg i).natAbs = 1 from by unfold sg; split <;> rfl, Nat.one_mul]
    exact Nat.mul_le_mul (h i 0 hi (by omega)) this
   rw [show fct (n + 1) * m ^ (n + 1) = (n + 1) * (m * (fct n * m ^ n)) from by rw [show fct (n + 1) = (n + 1) * fct n from rfl, Nat.pow_succ]; grind]
   exact h1
theorem det_two (A : Nat -> Nat -> Int) : det 2 A = A 0 0 * A 1 1 - A 1 0 * A 0 1 := by
 simp [det, sumN, sg, sk]; grind
theorem det_one (A : Nat -> Nat -> Int) : det 1 A = A 0 0 := by
 simp [det, sumN, sg]
theorem det_scale (n : Nat) (x : Int) (A : Nat -> Nat -> Int) : det n (fun i j => x * A i j) = x ^ n * det n A := by
 induction n generalizing A with
 | zero => simp [det]
 | succ n ih =>
   show sumN (n + 1) (fun i => sg i * (x * A i 0) * det n fun r c => x * A (sk i r) (c + 1)) = _ * sumN (n + 1) _
   rw [show ∀ f : Nat -> Int, x ^ (n + 1) * sumN (n + 1) f = x ^ (n + 1) * sumN (n + 1) f + 0 * sumN (n + 1) f from fun f => by omega]
   refine sumN_lin fun i hi => ?_
   rw [ih (fun r c => A (sk i r) (c + 1)), Int.pow_succ]
   grind
def nxt (q : Int) (M : Nat -> Nat -> Int) : Nat -> Nat -> Int := fun i j => (chio M i j).tdiv q
def Good (q : Int) (b : Nat -> Nat) (M : Nat -> Nat -> Int) : Prop :=
 ∀ (r : Nat) (R C : Nat -> Nat), ∃ D : Int, det (r + 1) (fun i j => M (R i) (C j)) = q ^ r * D /\ D.natAbs <= b r
def fst1 (R : Nat -> Nat) : Nat -> Nat
 | 0 => 0
 | i + 1 => R i + 1
theorem Good.entry {q : Int} {b : Nat -> Nat} {M : Nat -> Nat -> Int} (h : Good q b M) (i j : Nat) : (M i j).natAbs <= b 0 := by
 obtain ⟨D, h1, h2⟩ := h 0 (fun _ => i) (fun _ => j)
 rw [det_one, Int.pow_zero, Int.one_mul] at h1
 rw [h1]; exact h2
theorem Good.exact {q : Int} {b : Nat -> Nat} {M : Nat -> Nat -> Int} (h : Good q b M) (hq : q ≠ 0) (i j : Nat) : q * nxt q M i j = chio M i j := by
 obtain ⟨D, h1, _⟩ := h 1 (fst1 fun _ => i) (fst1 fun _ => j)
 rw [det_two, Int.pow_one] at h1
 have e : chio M i j = q * D := h1
 unfold nxt
 rw [e, Int.mul_tdiv_cancel_left _ hq]
theorem chio_fst (M : Nat -> Nat -> Int) (R C : Nat -> Nat) : chio (fun i j => M (fst1 R i) (fst1 C j)) = fun i j => chio M (R i) (C j) := rfl
theorem pow_ne {q : Int} (hq : q ≠ 0) (n : Nat) : q ^ n ≠ 0 := by
 induction n with
 | zero => simp
 | succ n ih => rw [Int.pow_succ]; exact Int.mul_ne_zero ih hq
theorem mul_left_pow {q x y : Int} (hq : q ≠ 0) (n : Nat) (h : q ^ n * x = q ^ n * y) : x = y :=
 Int.eq_of_mul_eq_mul_left (pow_ne hq n) h
theorem minor_next {q : Int} {b : Nat -> Nat} {M : Nat -> Nat -> Int} (h : Good q b M) (hq : q ≠ 0) (ha : M 0 0 ≠ 0) {r : Nat} {R C : Nat -> Nat} {D : Int}
   (hD : det (r + 2) (fun i j => M (fst1 R i) (fst1 C j)) = q ^ (r + 1) * D) :
   det (r + 1) (fun i j => nxt q M (R i) (C j)) = M 0 0 ^ r * D := by
 have h1 := det_scale (r + 1) q (fun i j => nxt q M (R i) (C j))
 have h2 : (fun i j => q * nxt q M (R i) (C j)) = chio (fun i j => M (fst1 R i) (fst1 C j)) := by
  funext i j
  rw [chio_fst]
  exact h.exact hq _ _
 have h3 := det_chio (r + 1) (fun i j => M (fst1 R i) (fst1 C j))
 rw [h2] at h1
 rw [h1, hD] at h3
 have h4 : M 0 0 ^ (r + 1) * (q ^ (r + 1) * D) = M 0 0 * (q ^ (r + 1) * det (r + 1) fun i j => nxt q M (R i) (C j)) := h3
 rw [Int.pow_succ (M 0 0)] at h4
 refine mul_left_pow hq (r + 1) (Int.eq_of_mul_eq_mul_left ha ?_)
 grind
theorem Good.next {q : Int} {b : Nat -> Nat} {M : Nat -> Nat -> Int} (h : Good q b M) (hq : q ≠ 0) (ha : M 0 0 ≠ 0) : Good (M 0 0) (fun r => b (r + 1)) (nxt q M) := fun r R C => by
 obtain ⟨D, h1, h2⟩ := h (r + 1) (fst1 R) (fst1 C)
 exact ⟨D, minor_next h hq ha h1, h2⟩
def Full (q : Int) (n : Nat) (M : Nat -> Nat -> Int) (D : Int) : Prop := q * det n M = q ^ n * D
def add0 (k : Nat) (M : Nat -> Nat -> Int) : Nat -> Nat -> Int := updR M 0 fun c => M 0 c + M k c
theorem Good.start {A : Nat -> Nat -> Int} {m : Nat} (h : ∀ i j, (A i j).natAbs <= m) : Good 1 (fun r => fct (r + 1) * m ^ (r + 1)) A := fun r R C =>
 ⟨_, by rw [Int.one_pow, Int.one_mul], det_abs fun i j _ _ => h _ _⟩
def mins : Nat -> Int -> (Nat -> Nat -> Int) -> List Int
 | 0, _, _ => []
 | n + 1, q, M => M 0 0 :: (if 0 < M 0 0 then mins n (M 0 0) (nxt q M) else [])
theorem sumN_mul (n : Nat) (f : Nat -> Int) (x : Int) : x * sumN n f = sumN n fun i => x * f i := by
 induction n with
 | zero => simp [sumN]
 | succ n ih => unfold sumN; rw [<- ih]; grind
theorem sumN_add (n : Nat) (f g : Nat -> Int) : sumN n f + sumN n g = sumN n fun i => f i + g i := by
 induction n with
 | zero => simp [sumN]
 | succ n ih => unfold sumN; rw [<- ih]; dsimp only; omega
def quad (n : Nat) (M : Nat -> Nat -> Int) (x : Nat -> Int) : Int := sumN n fun i => sumN n fun j => M i j * x i * x j
def PD (n : Nat) (M : Nat -> Nat -> Int) : Prop := ∀ x : Nat -> Int, (∃ i, i < n /\ x i ≠ 0) -> 0 < quad n M x
def Symm (M : Nat -> Nat -> Int) : Prop := ∀ i j, M i j = M j i
theorem quad_congr {n : Nat} {M K : Nat -> Nat -> Int} {x y : Nat -> Int} (h : ∀ i j, i < n -> j < n -> M i j = K i j) (hx : ∀ i, i < n -> x i = y i) : quad n M x = quad n K y :=
 sumN_congr fun i hi => sumN_congr fun j hj => by rw [h i j hi hj, hx i hi, hx j hj]
theorem quad_mul (n : Nat) (M : Nat -> Nat -> Int) (x : Nat -> Int) (a : Int) : quad n (fun i j => a * M i j) x = a * quad n M x := by
 unfold quad
 rw [sumN_mul]
 refine sumN_congr fun i _ => ?_
 rw [sumN_mul]
 exact sumN_congr fun j _ => by grind
theorem quad_of (n : Nat) (M : Nat -> Nat -> Int) (x : Nat -> Int) (a : Int) : quad n M (fun i => a * x i) = a * a * quad n M x := by
 unfold quad
 rw [sumN_mul]
 refine sumN_congr fun i _ => ?_
 rw [sumN_mul]
 exact sumN_congr fun j _ => by grind
theorem quad_head (n : Nat) (M : Nat -> Nat -> Int) (x : Nat -> Int) :
   quad (n + 1) M x = M 0 0 * x 0 * x 0 + x 0 * (sumN n fun j => M 0 (j + 1) * x (j + 1)) + x 0 * (sumN n fun i => M (i + 1) 0 * x (i + 1)) + quad n (fun i j => M (i + 1) (j + 1)) fun i => x (i + 1) := by
 unfold quad
 rw [sumN_head, sumN_head]
 have h1 : (sumN n fun i => M 0 (i + 1) * x 0 * x (i + 1)) = x 0 * sumN n fun j => M 0 (j + 1) * x (j + 1) := by
  rw [sumN_mul]; exact sumN_congr fun i _ => by grind
 have h2 : (sumN n fun i => sumN (n + 1) fun j => M (i + 1) j * x (i + 1) * x j) = x 0 * (sumN n fun i => M (i + 1) 0 * x (i + 1)) + sumN n fun i => sumN n fun j => M (i + 1) (j + 1) * x (i + 1) * x (j + 1) := by
  rw [sumN_mul, sumN_add]
  refine sumN_congr fun i _ => ?_
  rw [sumN_head]
  grind
 rw [h1, h2]
 grind
theorem sumN_sq (n : Nat) (f : Nat -> Int) : sumN n f * sumN n f = sumN n fun i => sumN n fun j => f i * f j := by
 rw [sumN_mul]
 refine sumN_congr fun i _ => ?_
 rw [Int.mul_comm, sumN_mul]
theorem quad_chio {n : Nat} {M : Nat -> Nat -> Int} (hs : Symm M) (x : Nat -> Int) :
   M 0 0 * quad (n + 1) M x = (M 0 0 * x 0 + sumN n fun j => M 0 (j + 1) * x (j + 1)) * (M 0 0 * x 0 + sumN n fun j => M 0 (j + 1) * x (j + 1)) + quad n (chio M) fun i => x (i + 1) := by
 have h1 : (sumN n fun i => M (i + 1) 0 * x (i + 1)) = sumN n fun j => M 0 (j + 1) * x (j + 1) := sumN_congr fun i _ => by rw [hs (i + 1) 0]
 have h2 : quad n (chio M) (fun i => x (i + 1)) + (sumN n fun j => M 0 (j + 1) * x (j + 1)) * (sumN n fun j => M 0 (j + 1) * x (j + 1)) = M 0 0 * quad n (fun i j => M (i + 1) (j + 1)) fun i => x (i + 1) := by
  rw [sumN_sq, <- quad_mul]
  unfold quad
  rw [sumN_add]
  refine sumN_congr fun i _ => ?_
  rw [sumN_add]
  refine sumN_congr fun j _ => ?_
  unfold chio
  rw [hs (i + 1) 0]
  grind
 rw [quad_head, h1]
 grind
theorem mul_self_nonneg (x : Int) : 0 <= x * x := by
 rcases Int.le_total 0 x with h | h
 ·exact Int.mul_nonneg h h
 ·exact Int.mul_nonneg_of_nonpos_of_nonpos h h
theorem mul_self_pos {x : Int} (h : x ≠ 0) : 0 < x * x := by
 have := mul_self_nonneg x
 have : x * x ≠ 0 := Int.mul_ne_zero h h
 omega
theorem pos_of_mul {a b : Int} (ha : 0 < a) (h : 0 < a * b) : 0 < b := by
 rcases Int.lt_trichotomy b 0 with h1 | h1 | h1
 ·have := Int.mul_neg_of_pos_of_neg ha h1; omega
 ·subst h1; simp at h
 ·exact h1
theorem pd_chio {n : Nat} {M : Nat -> Nat -> Int} (hs : Symm M) : PD (n + 1) M ↔ 0 < M 0 0 /\ PD n (chio M) := by
 constructor
 ·intro h
  have ha : 0 < M 0 0 := by
   have := h (fun i => if i = 0 then 1 else 0) ⟨0, by omega, by simp⟩
   rw [quad_head] at this
   rw [sumN_zero (n := n) (f := fun j => M 0 (j + 1) * if j + 1 = 0 then 1 else 0) (fun i _ => by simp), sumN_zero (n := n) (f := fun i => M (i + 1) 0 * if i + 1 = 0 then 1 else 0) (fun i _ => by simp),
    show quad n (fun i j => M (i + 1) (j + 1)) (fun i => if i + 1 = 0 then 1 else 0) = 0 from sumN_zero fun i _ => sumN_zero fun j _ => by simp] at this
   simpa using this
  refine ⟨ha, fun y hy => ?_⟩
  obtain ⟨i, hi, hy⟩ := hy
  have hx := h (fun i => match i with | 0 => - sumN n fun j => M 0 (j + 1) * y j | i + 1 => M 0 0 * y i) ⟨i + 1, by omega, Int.mul_ne_zero (by omega) hy⟩
  have hq := quad_chio (n := n) hs (fun i => match i with | 0 => - sumN n fun j => M 0 (j + 1) * y j | i + 1 => M 0 0 * y i)
  dsimp only at hq
  have e : (sumN n fun j => M 0 (j + 1) * (M 0 0 * y j)) = M 0 0 * sumN n fun j => M 0 (j + 1) * y j := by
   rw [sumN_mul]; exact sumN_congr fun j _ => by grind
  rw [e, quad_of] at hq
  have h3 := Int.mul_pos ha hx
  rw [hq] at h3
  have h4 : 0 < M 0 0 * M 0 0 * quad n (chio M) y := by
   have : (M 0 0 * -(sumN n fun j => M 0 (j + 1) * y j) + M 0 0 * sumN n fun j => M 0 (j + 1) * y j) = 0 := by grind
   rw [this] at h3
   simpa using h3
  exact pos_of_mul (Int.mul_pos ha ha) h4
 ·rintro ⟨ha, hc⟩ x ⟨i, hi, hx⟩
  refine pos_of_mul ha ?_
  rw [quad_chio hs]
  by_cases e : ∃ j, j < n /\ x (j + 1) ≠ 0
  ·have := hc (fun i => x (i + 1)) e
   have := mul_self_nonneg (M 0 0 * x 0 + sumN n fun j => M 0 (j + 1) * x (j + 1))
   omega
  ·have hz : ∀ j, j < n -> x (j + 1) = 0 := fun j hj => Classical.byContradiction fun h => e ⟨j, hj, h⟩
   have h0 : x 0 ≠ 0 := by
    cases i with
    | zero => exact hx
    | succ i => exact absurd (hz i (by omega)) hx
   rw [sumN_zero fun j hj => by rw [hz j hj, Int.mul_zero], show quad n (chio M) (fun i => x (i + 1)) = 0 from sumN_zero fun i hi => sumN_zero fun j hj => by simp only [hz j hj, Int.mul_zero]]
   have := mul_self_pos (x := M 0 0 * x 0) (Int.mul_ne_zero (by omega) h0)
   simpa using this
theorem Symm.chio {M : Nat -> Nat -> Int} (h : Symm M) : Symm (chio M) := fun i j => by
 unfold Go.Proofs.YtdpgpchcgmmklaaGreatDoor.chio; rw [h (i + 1) (j + 1), h (i + 1) 0, h 0 (j + 1)]; grind
theorem Symm.nxt {M : Nat -> Nat -> Int} (h : Symm M) (q : Int) : Symm (nxt q M) := fun i j => by
 unfold Go.Proofs.YtdpgpchcgmmklaaGreatDoor.nxt; rw [h.chio i j]
theorem pd_mins {b : Nat -> Nat} : ∀ {n : Nat} {q : Int} {M : Nat -> Nat -> Int}, 0 < q -> Good q b M -> Symm M -> (PD n M ↔ ∀ x ∈ mins n q M, 0 < x) := by
 intro n
 induction n generalizing b with
 | zero =>
   intro q M _ _ _
   constructor
   ·intro _ x h; cases h
   ·rintro _ x ⟨i, hi, _⟩; omega
 | succ n ih =>
   intro q M hq hg hs
   rw [pd_chio hs]
   show _ ↔ ∀ x ∈ M 0 0 :: (if 0 < M 0 0 then mins n (M 0 0) (nxt q M) else []), 0 < x
   by_cases ha : 0 < M 0 0
   ·have h1 := ih ha (hg.next (by omega) (by omega)) (hs.nxt q)
    have h2 : PD n (chio M) ↔ PD n (nxt q M) := by
     have e : chio M = fun i j => q * nxt q M i j := by funext i j; exact (hg.exact (by omega) i j).symm
     have e2 : ∀ x, quad n (chio M) x = q * quad n (nxt q M) x := fun x => by rw [e, quad_mul]
     exact ⟨fun h x hx => pos_of_mul hq (by rw [<- e2]; exact h x hx), fun h x hx => by rw [e2]; exact Int.mul_pos hq (h x hx)⟩
    rw [if_pos ha, h2, h1]
    simp [ha]
   ·rw [if_neg ha]
    simp [ha]
theorem pd_congr {n : Nat} {A B : Nat -> Nat -> Int} (h : ∀ i j, i < n -> j < n -> A i j = B i j) : PD n A ↔ PD n B :=
 ⟨fun hp x hx => by rw [<- quad_congr h fun _ _ => rfl]; exact hp x hx, fun hp x hx => by rw [quad_congr h fun _ _ => rfl]; exact hp x hx⟩
theorem mins_len : ∀ (n : Nat) (q : Int) (M : Nat -> Nat -> Int), (mins n q M).length <= n := by
 intro n
 induction n with
 | zero => intro q M; exact Nat.le_refl _
 | succ n ih =>
   intro q M
   unfold mins
   have := ih (M 0 0) (nxt q M)
   split <;> simp <;> omega
theorem mins_all : ∀ (n : Nat) (q : Int) (M : Nat -> Nat -> Int), (∀ x ∈ mins n q M, 0 < x) ↔ n = 0 \/ ((mins n q M).length = n /\ 0 < (mins n q M).getD (n - 1) 0) := by
 intro n
 induction n with
 | zero => intro q M; simp [mins]
 | succ n ih =>
   intro q M
   have ih := ih (M 0 0) (nxt q M)
   have e : mins (n + 1) q M = M 0 0 :: (if 0 < M 0 0 then mins n (M 0 0) (nxt q M) else []) := rfl
   rw [e]
   have hl := mins_len n (M 0 0) (nxt q M)
   generalize mins n (M 0 0) (nxt q M) = L at ih hl ⊢
   by_cases ha : 0 < M 0 0
   ·rw [if_pos ha]
    cases n with
    | zero =>
      obtain rfl : L = [] := List.length_eq_zero_iff.1 (by omega)
      simp [ha]
    | succ n =>
      simp [ha] at ih ⊢
      rw [ih]
   ·rw [if_neg ha]
    simp [ha]
    intro h; subst h; simp; omega
end Go.Proofs.YtdpgpchcgmmklaaGreatDoor
namespace Go.Proofs.YtdpgpchcgmmklaaGreatDoor
set_option maxRecDepth 100000
def unitM (k : Int) : Nat -> Nat -> Int := fun i j => if i = j then k else 0
theorem sumN_nn {n : Nat} {f : Nat -> Int} (h : ∀ i, i < n -> 0 <= f i) : 0 <= sumN n f := by
 induction n with
 | zero => exact Int.le_refl _
 | succ n ih =>
   have h1 := ih fun i hi => h i (by omega)
   have h2 := h n (by omega)
   show 0 <= sumN n f + f n
   omega
theorem quad_add (n : Nat) (A B : Nat -> Nat -> Int) (x : Nat -> Int) : quad n (fun i j => A i j + B i j) x = quad n A x + quad n B x := by
 unfold quad
 rw [sumN_add]
 refine sumN_congr fun i _ => ?_
 rw [sumN_add]
 refine sumN_congr fun j _ => ?_
 rw [Int.add_mul, Int.add_mul]
theorem quad_unit (n : Nat) (k : Int) (x : Nat -> Int) : quad n (unitM k) x = k * sumN n fun i => x i * x i := by
 unfold quad
 rw [sumN_mul]
 refine sumN_congr fun i hi => ?_
 rw [sumN_one hi fun j _ hj => by unfold unitM; rw [if_neg (fun e => hj e.symm), Int.zero_mul, Int.zero_mul]]
 unfold unitM
 rw [if_pos rfl, Int.mul_assoc]
theorem quad_outer (n : Nat) (w : Int) (h x : Nat -> Int) : quad n (fun i j => w * (h i * h j)) x = w * ((sumN n fun i => h i * x i) * sumN n fun i => h i * x i) := by
 unfold quad
 rw [sumN_sq, sumN_mul]
 refine sumN_congr fun i _ => ?_
 rw [sumN_mul]
 refine sumN_congr fun j _ => ?_
 simp only [Int.mul_assoc, Int.mul_left_comm]
theorem pd_more {n : Nat} {A B : Nat -> Nat -> Int} (hA : PD n A) (hB : ∀ x, 0 <= quad n B x) : PD n fun i j => A i j + B i j := fun x hx => by
 have h1 := hA x hx
 have h2 := hB x
 rw [quad_add]
 omega
theorem outer_nonneg (n : Nat) {w : Int} (hw : 0 <= w) (h x : Nat -> Int) : 0 <= quad n (fun i j => w * (h i * h j)) x := by
 rw [quad_outer]
 exact Int.mul_nonneg hw (mul_self_nonneg _)
theorem pd_unit (n : Nat) : PD n (unitM 1) := fun x hx => by
 obtain ⟨i, hi, h0⟩ := hx
 rw [quad_unit, Int.one_mul]
 have key : ∀ n, i < n -> 0 < sumN n fun i => x i * x i := by
  intro n
  induction n with
  | zero => intro h; omega
  | succ n ih =>
    intro h
    show 0 < (sumN n fun i => x i * x i) + x n * x n
    by_cases e : i = n
    ·have h1 := mul_self_pos h0
     have h2 : 0 <= sumN n fun i => x i * x i := sumN_nn fun j _ => mul_self_nonneg (x j)
     rw [e] at h1
     omega
    ·have h1 := ih (by omega)
     have h2 := mul_self_nonneg (x n)
     omega
 exact key n hi
theorem pd_below (n : Nat) {w : Int} (hw : 0 <= w) (h : Nat -> Int) : PD n fun i j => w * (h i * h j) + unitM 1 i j := by
 refine (pd_congr fun i j _ _ => ?_).1 (pd_more (pd_unit n) (outer_nonneg n hw h))
 omega
end Go.Proofs.YtdpgpchcgmmklaaGreatDoor
namespace Go.Proofs.YtdpgpchcgmmklaaGreatDoor
open Go Go.RowKit
theorem oI {α : Type} {a b : α} (h : some a = some b) : a = b := Option.some.inj h
set_option maxRecDepth 100000
theorem pu1 {α : Type} (l : List α) (i : Nat) (a : α) : l.toArray.setIfInBounds i a = (l.set i a).toArray := List.setIfInBounds_toArray l i a
theorem pu2 {α : Type} (a b : α) (l : List α) : (a :: l).set 0 b = b :: l := List.set_cons_zero
theorem pu3 {α : Type} (a b : α) (l : List α) (n : Nat) : (a :: l).set (n + 1) b = a :: l.set n b := List.set_cons_succ
def Up (w w' : World) : Prop := Below w.heap.size w w'
theorem Up.refl (w : World) : Up w w := Below.refl _ _
theorem Up.trans {a b c : World} (h : Up a b) (k : Up b c) : Up a c := Below.trans h (Below.mono k h.size)
theorem Up.drew (w : World) : Up w w.drew := (Below.refl _ _).drew
theorem Up.alloc (w : World) (o : Obj) : Up w (w.alloc o) := (Below.refl _ _).alloc (Nat.le_refl _) _
theorem Up.row {w w' : World} (h : Up w w') {b : Nat} {o : Obj} (hb : w.heap[b]? = some o) : w'.heap[b]? = some o := by
 rw [h.block b (Array.getElem?_eq_some_iff.1 hb).1]; exact hb
theorem Up.cell {w w' : World} (h : Up w w') {p : Addr} {v : Value} (hc : w.cell? p = some v) : w'.cell? p = some v := by
 rw [Below.cell h (World.block_lt_of_cell? w p hc)]; exact hc
theorem Up.below {B : Nat} {a w w' : World} (h : Up w w') (hb : Below B a w) (hB : B <= w.heap.size) : Below B a w' := Below.trans hb (Below.mono h hB)
section
variable {P : Program} {ops : Array Oper} {Q : Exit -> Act -> World -> Prop} {md : Region.Mode} {S : World -> Prop} {req : Nat -> Bool}
def LeavesU (P : Program) (v : Value) (w : World) : Result Next -> Prop
 | .ok (.value u) w' => u = v /\ Up w w'
 | .ok (.enter f args) w' => Up w w' /\ Calls P f args w' fun e w'' => e = .returned v /\ Up w' w''
 | _ => False
def YieldsU (P : Program) (ops : Array Oper) (S : World -> Prop) (o : Oper) (v : Value) (a : Act) : Prop :=
 (Region.wanted o (yielded ops a.tmps) = true /\ ∀ w, S w -> LeavesU P v w ((execOp a.eval o).run P w)) \/
 (Region.wanted o (yielded ops a.tmps) = false /\ v = undef)
theorem YieldsU.of_same {o : Oper} {v : Value} {a a' : Act} (hy : YieldsU P ops S o v a) (he : execOp a'.eval o = execOp a.eval o)
   (hw : Region.wanted o (yielded ops a'.tmps) = Region.wanted o (yielded ops a.tmps)) : YieldsU P ops S o v a' := by
 unfold YieldsU at *
 rw [he, hw]
 exact hy
theorem YieldsU.wpOp {i : Nat} {o : Oper} {v : Value} {a : Act} (hi : ops[i]? = some o) (hy : YieldsU P ops S o v a)
   {K : Act -> World -> Prop} {w : World} (hS : S w) (h : ∀ w', Up w w' -> K (a.put o.dst v) w') : wpOp P ops Q i K a w := by
 unfold Go.wpOp
 simp only [hi]
 rcases hy with ⟨hw, hv⟩ | ⟨hw, rfl⟩
 ·simp only [hw, if_true]
  refine .inl ?_
  have h1 := hv w hS
  unfold Oper.wp
  generalize (execOp a.eval o).run P w = r at *
  cases r with
  | halt x w' => exact h1.elim
  | ok n w' =>
    cases n with
    | value u => obtain ⟨rfl, hu⟩ := h1; exact h _ hu
    | enter f args =>
      obtain ⟨hu, hc⟩ := h1
      refine Calls.mono hc fun e w'' he => ?_
      obtain ⟨rfl, hu'⟩ := he
      exact h _ (hu.trans hu')
    | _ => exact h1.elim
 ·simp only [hw, Bool.false_eq_true, if_false]; exact h _ (Up.refl _)
theorem wpOp_putU {j : Nat} {oi oj : Oper} {v : Value} (hj : ops[j]? = some oj) (hap : oi.apart ops oj = true)
   (hsi : ∀ cs b, oi.op ≠ .select cs b) (hsj : ∀ cs b, oj.op ≠ .select cs b)
   (hQ : ∀ c a w, Q (.panic c) (a.put oi.dst v) w -> Q (.panic c) a w) {K : Act -> World -> Prop} {a : Act} {w : World}
   (hy : YieldsU P ops S oi v a) (h : wpOp P ops Q j K (a.put oi.dst v) w) :
   wpOp P ops Q j (fun a' w' => YieldsU P ops S oi v a' /\ K (a'.put oi.dst v) w') a w := by
 obtain ⟨h1, h2, h3⟩ := Oper.apart_spec hap
 have keep : ∀ (a : Act), YieldsU P ops S oi v a -> ∀ u, YieldsU P ops S oi v (a.put oj.dst u) := fun a hy u =>
  hy.of_same (execOp_put oi hsi a oj.dst u h3) (wanted_put oi a oj.dst u h3)
 have keepD : ∀ d, YieldsU P ops S oi v { a with defers := d :: a.defers } := fun d => hy.of_same rfl rfl
 unfold wpOp at *
 simp only [hj] at *
 rw [wanted_put oj a oi.dst v h1] at h
 split
 ·rename_i hw
  simp only [hw, if_true] at h
  rcases h with h | ⟨hasks, hlets⟩
  case inr => exact .inr ⟨by unfold Oper.asks at *; rw [execOp_put oj hsj a oi.dst v h1] at hasks; exact hasks, hlets⟩
  refine .inl ?_
  unfold Oper.wp at *
  rw [execOp_put oj hsj a oi.dst v h1] at h
  generalize (execOp a.eval oj).run P w = r at *
  cases r with
  | ok n w' =>
    cases n <;> simp only [Oper.upon] at h ⊢
    case value u => exact ⟨keep a hy u, by rw [<- Act.put_comm a v u h2]; exact h⟩
    case skip => exact ⟨keep a hy _, by rw [<- Act.put_comm a v undef h2]; exact h⟩
    case defer d =>
     refine ⟨keep _ (keepD d) _, ?_⟩
     rw [<- Act.put_comm _ v undef h2, <- Act.put_defers]
     exact h
    case enter f args =>
     refine Calls.mono h fun e w'' he => ?_
     cases e with
     | returned u => exact ⟨keep a hy u, by rw [<- Act.put_comm a v u h2]; exact he⟩
     | panicked c => exact hQ _ _ _ he
     | outgrown => exact he
    case row row args => exact Rows.mono h fun u w'' he => ⟨keep a hy u, by rw [<- Act.put_comm a v u h2]; exact he⟩
  | halt x w' =>
    cases x <;> simp only [Oper.upon] at h ⊢
    case panic u => exact hQ _ _ _ h
 ·rename_i hw
  simp only [hw] at h
  exact ⟨keep a hy _, by rw [<- Act.put_comm a v undef h2]; exact h⟩
def wpAnyU (P : Program) (md : Region.Mode) (ops : Array Oper) (Q : Exit -> Act -> World -> Prop) (S : World -> Prop) (req : Nat -> Bool) : Nat -> Array Bool -> Act -> World -> Prop
 | 0, listed, a, w => Region.ready md ops listed = [] /\ ∀ w', Up w w' -> Q .normal a w'
 | fuel + 1, listed, a, w => ∀ w', Up w w' ->
   (Region.ready md ops listed = [] -> Q .normal a w') /\
   ∀ i ∈ Region.ready md ops listed, wpOp P ops Q i (fun a' w'' => (req i = true -> S w' -> S w'') /\ wpAnyU P md ops Q S req fuel (listed.setIfInBounds i true) a' w'') a w'
theorem wpAnyU_up : ∀ {fuel : Nat} {listed : Array Bool} {a : Act} {w w' : World}, Up w w' -> wpAnyU P md ops Q S req fuel listed a w -> wpAnyU P md ops Q S req fuel listed a w'
 | 0, _, _, _, _, hu, h => ⟨h.1, fun w'' hw => h.2 w'' (hu.trans hw)⟩
 | _ + 1, _, _, _, _, hu, h => fun w'' hw => h w'' (hu.trans hw)
theorem wpAny_of_up : ∀ (fuel : Nat) (listed : Array Bool) (a : Act) (w : World), wpAnyU P md ops Q S req fuel listed a w -> wpAny P md ops Q fuel listed a w
 | 0, _, _, w, h => ⟨h.1, h.2 w (Up.refl w)⟩
 | fuel + 1, _, _, w, h => ⟨(h w (Up.refl w)).1, fun i hi => wpOp_mono (fun a' w' h' => wpAny_of_up fuel _ a' w' h'.2) ((h w (Up.refl w)).2 i hi)⟩
def waitsU (md : Region.Mode) (ops : Array Oper) (i : Nat) : Nat -> Nat -> Bool
 | 0, _ => false
 | fuel + 1, j => ((ops[j]?).map fun o => o.after.any fun e => Region.binds md e && (e.on == i || waitsU md ops i fuel e.on)).getD false
def closedU (md : Region.Mode) (ops : Array Oper) (listed : Array Bool) : Prop :=
 ∀ j oj, ops[j]? = some oj -> listed.getD j false = true -> ∀ e ∈ oj.after, Region.binds md e = true -> listed.getD e.on false = true
def closedB (md : Region.Mode) (ops : Array Oper) (listed : Array Bool) : Bool :=
 (List.range ops.size).all fun j => !listed.getD j false || ((ops[j]?).map fun o => o.after.all fun e => !Region.binds md e || listed.getD e.on false).getD true
theorem closedB_spec {listed : Array Bool} (h : closedB md ops listed = true) : closedU md ops listed := by
 intro j oj hj hl e he hb
 have hlt : j < ops.size := (Array.getElem?_eq_some_iff.1 hj).1
 have h1 := List.all_eq_true.1 h j (List.mem_range.2 hlt)
 rw [hl, hj] at h1
 simp only [Bool.not_true, Bool.false_or, Option.map_some, Option.getD_some, Array.all_eq_true_iff_forall_mem, Bool.or_eq_true, Bool.not_eq_true'] at h1
 exact (h1 e he).resolve_left (by simp [hb])
theorem closedU_set {listed : Array Bool} {j : Nat} (h : closedU md ops listed) (hj : j ∈ Region.ready md ops listed) : closedU md ops (listed.setIfInBounds j true) := by
 obtain ⟨_, o, ho, hall⟩ := mem_ready.1 hj
 intro k ok hk hl e he hb
 by_cases hjk : j = k
 ·subst hjk
  have : ok = o := Option.some.inj (hk.symm.trans ho)
  subst this
  exact getD_set_true (hall e he hb)
 ·rw [getD_set_ne false hjk] at hl
  exact getD_set_true (h k ok hk hl e he hb)
theorem waitsU_spec {listed : Array Bool} {i : Nat} (hc : closedU md ops listed) : ∀ (fuel j : Nat) (o : Oper), ops[j]? = some o -> (∀ e ∈ o.after, Region.binds md e = true -> listed.getD e.on false = true) ->
   waitsU md ops i fuel j = true -> listed.getD i false = true
 | 0, _, _, _, _, h => by simp [waitsU] at h
 | fuel + 1, j, o, ho, hall, h => by
   simp only [waitsU, ho, Option.map_some, Option.getD_some, Array.any_eq_true', Bool.and_eq_true, Bool.or_eq_true, beq_iff_eq] at h
   obtain ⟨e, he, hb, h1⟩ := h
   have hl := hall e he hb
   rcases h1 with h1 | h1
   ·rw [<- h1]; exact hl
   ·cases ho' : ops[e.on]? with
    | none =>
      cases fuel with
      | zero => simp [waitsU] at h1
      | succ f => simp [waitsU, ho'] at h1
    | some o' => exact waitsU_spec hc fuel e.on o' ho' (fun e' he' hb' => hc e.on o' ho' hl e' he' hb') h1
theorem wpAnyU_first {i : Nat} {oi : Oper} {v : Value} (hi : ops[i]? = some oi) (hsel : ∀ (j : Nat) (o : Oper) cs b, ops[j]? = some o -> o.op ≠ .select cs b)
   (hQ : ∀ c a w, Q (.panic c) (a.put oi.dst v) w -> Q (.panic c) a w) (hSup : ∀ w w', S w -> Up w w' -> S w') {T : World -> Prop} (hTup : ∀ w w', T w -> Up w w' -> T w')
   (hT : (∀ w, T w) \/ ((∀ w, T w -> S w) /\ (∀ w, S w -> T w) /\ ∀ j oj, ops[j]? = some oj -> req j = false -> ∃ f, waitsU md ops i f j = true)) :
   ∀ (fuel : Nat) (listed : Array Bool) (a : Act) (w : World), closedU md ops listed ->
     (∀ j oj, ops[j]? = some oj -> j ≠ i -> listed.getD j true = false -> (∀ e ∈ oj.after, Region.binds md e = true -> e.on ≠ i) -> oi.apart ops oj = true) ->
     i ∈ Region.ready md ops listed -> YieldsU P ops T oi v a -> T w ->
     wpAnyU P md ops Q S req fuel (listed.setIfInBounds i true) (a.put oi.dst v) w -> wpAnyU P md ops Q S req (fuel + 1) listed a w := by
 intro fuel
 induction fuel with
 | zero =>
   intro listed a w hcl _ hr hy hS H w' hw'
   refine ⟨fun h => (by rw [h] at hr; cases hr), fun j hj => ?_⟩
   by_cases hji : j = i
   ·subst hji; exact hy.wpOp hi (hTup _ _ hS hw') fun w'' hu => ⟨fun _ h => hSup _ _ h hu, wpAnyU_up (hw'.trans hu) H⟩
   ·have := ready_mono hj hji
    rw [H.1] at this
    cases this
 | succ fuel ih =>
   intro listed a w hcl hfree hr hy hS H w' hw'
   refine ⟨fun h => (by rw [h] at hr; cases hr), fun j hj => ?_⟩
   by_cases hji : j = i
   ·subst hji; exact hy.wpOp hi (hTup _ _ hS hw') fun w'' hu => ⟨fun _ h => hSup _ _ h hu, wpAnyU_up (hw'.trans hu) H⟩
   ·have h1 := (H w' hw').2 j (ready_mono hj hji)
    obtain ⟨hjun, oj, hoj, hall⟩ := mem_ready.1 hj
    have h0 := (mem_ready.1 hr).1
    have hiun : listed.getD i false = true -> False := fun h1 => by
     rcases Nat.lt_or_ge i listed.size with h' | h'
     ·simp [h'] at h0 h1; rw [h0] at h1; cases h1
     ·simp [Array.getElem?_eq_none h'] at h1
    have hnot : ∀ e ∈ oj.after, Region.binds md e = true -> e.on ≠ i := fun e he hb heq => hiun (heq ▸ hall e he hb)
    have hnext : ∀ w'', (req j = true -> S w' -> S w'') -> T w'' := fun w'' hk => by
     rcases hT with hT | ⟨h1, h2, h3⟩
     ·exact hT _
     ·refine h2 _ (hk ?_ (h1 _ (hTup _ _ hS hw')))
      cases hq : req j with
      | true => rfl
      | false =>
        obtain ⟨f, hf⟩ := h3 j oj hoj hq
        exact (hiun (waitsU_spec hcl f j oj hoj hall hf)).elim
    have h2 := wpOp_putU hoj (hfree j oj hoj hji hjun hnot) (fun cs b => hsel i oi cs b hi) (fun cs b => hsel j oj cs b hoj) hQ hy h1
    have hfree' : ∀ k ok, ops[k]? = some ok -> k ≠ i -> (listed.setIfInBounds j true).getD k true = false ->
       (∀ e ∈ ok.after, Region.binds md e = true -> e.on ≠ i) -> oi.apart ops ok = true := fun k ok hk hki hun hno => by
     refine hfree k ok hk hki ?_ hno
     by_cases hjk : j = k
     ·subst hjk; exact hjun
     ·rw [getD_set_ne true hjk] at hun; exact hun
    refine wpOp_mono (fun a' w'' h3 => ⟨h3.2.1, ih (listed.setIfInBounds j true) a' w'' (closedU_set hcl hj) hfree' (ready_mono hr (Ne.symm hji)) h3.1 (hnext _ h3.2.1) ?_⟩) h2
    rw [Array.setIfInBounds_comm _ _ hji]
    exact h3.2.2
def reqB (md : Region.Mode) (ops : Array Oper) (req : Nat -> Bool) (i : Nat) : Bool := (List.range ops.size).all fun j => req j || waitsU md ops i ops.size j
theorem reqB_spec {i : Nat} (h : reqB md ops req i = true) : ∀ j oj, ops[j]? = some oj -> req j = false -> ∃ f, waitsU md ops i f j = true := fun j oj hj hq => by
 have h1 := List.all_eq_true.1 h j (List.mem_range.2 (Array.getElem?_eq_some_iff.1 hj).1)
 rw [hq, Bool.false_or] at h1
 exact ⟨_, h1⟩
def takeB (md : Region.Mode) (ops : Array Oper) (req : Nat -> Bool) (listed : Array Bool) (i : Nat) : Bool :=
 Region.noSelect ops && Region.free md ops listed i && (Region.ready md ops listed).contains i && closedB md ops listed && reqB md ops req i
theorem wpAnyU_take {i : Nat} {oi : Oper} {d : Option Tmp} {v : Value} {fuel : Nat} {listed : Array Bool} {a : Act} {w : World} (hi : ops[i]? = some oi) (hd : oi.dst = d) (ht : takeB md ops req listed i = true)
   (hQ : ∀ c a w, Q (.panic c) (a.put d v) w -> Q (.panic c) a w) (hSup : ∀ w w', S w -> Up w w' -> S w') (hS : S w) (hy : YieldsU P ops S oi v a)
   (h : wpAnyU P md ops Q S req fuel (listed.setIfInBounds i true) (a.put d v) w) : wpAnyU P md ops Q S req (fuel + 1) listed a w := by
 subst hd
 simp only [takeB, Bool.and_eq_true] at ht
 obtain ⟨⟨⟨⟨h1, h2⟩, h3⟩, h4⟩, h5⟩ := ht
 exact wpAnyU_first hi (Region.noSelect_spec h1) hQ hSup hSup (.inr ⟨fun _ h => h, fun _ h => h, reqB_spec h5⟩) fuel listed a w (closedB_spec h4) (Region.free_spec hi h2) (by simpa using h3) hy hS h
def pureB (md : Region.Mode) (ops : Array Oper) (listed : Array Bool) (i : Nat) : Bool :=
 Region.noSelect ops && Region.free md ops listed i && (Region.ready md ops listed).contains i && closedB md ops listed
theorem wpAnyU_pure {i : Nat} {oi : Oper} {d : Option Tmp} {v : Value} {fuel : Nat} {listed : Array Bool} {a : Act} {w : World} (hi : ops[i]? = some oi) (hd : oi.dst = d) (ht : pureB md ops listed i = true)
   (hQ : ∀ c a w, Q (.panic c) (a.put d v) w -> Q (.panic c) a w) (hSup : ∀ w w', S w -> Up w w' -> S w') (hy : YieldsU P ops (fun _ => True) oi v a)
   (h : wpAnyU P md ops Q S req fuel (listed.setIfInBounds i true) (a.put d v) w) : wpAnyU P md ops Q S req (fuel + 1) listed a w := by
 subst hd
 simp only [pureB, Bool.and_eq_true] at ht
 obtain ⟨⟨⟨h1, h2⟩, h3⟩, h4⟩ := ht
 exact wpAnyU_first hi (Region.noSelect_spec h1) hQ hSup (T := fun _ => True) (fun _ _ h _ => h) (.inl fun _ => trivial) fuel listed a w (closedB_spec h4) (Region.free_spec hi h2) (by simpa using h3) hy trivial h
theorem wpAnyU_all {rs : List Nat} {fuel : Nat} {listed : Array Bool} {a : Act} {w : World} (hr : Region.ready md ops listed = rs) (hne : rs ≠ [])
   (h : ∀ w', Up w w' -> ∀ i ∈ rs, wpOp P ops Q i (fun a' w'' => (req i = true -> S w' -> S w'') /\ wpAnyU P md ops Q S req fuel (listed.setIfInBounds i true) a' w'') a w') : wpAnyU P md ops Q S req (fuel + 1) listed a w :=
 fun w' hw' => ⟨fun h0 => absurd (hr ▸ h0) hne, hr ▸ h w' hw'⟩
theorem wpAnyU_one {i : Nat} {o : Oper} {fuel : Nat} {listed : Array Bool} {a : Act} {w : World} (hi : ops[i]? = some o) (hr : Region.ready md ops listed = [i]) (hw : Region.wanted o (yielded ops a.tmps) = true)
   (h : ∀ w', Up w w' -> Oper.wp P o a w' (fun a' w'' => (req i = true -> S w' -> S w'') /\ wpAnyU P md ops Q S req fuel (listed.setIfInBounds i true) a' w'') Q) : wpAnyU P md ops Q S req (fuel + 1) listed a w :=
 wpAnyU_all hr (by simp) fun w' hw' j hj => by
  obtain rfl : j = i := by simpa using hj
  unfold wpOp
  simp only [hi, hw, if_true]
  exact .inl (h w' hw')
theorem wpAnyU_done {listed : Array Bool} {a : Act} {w : World} (hr : Region.ready md ops listed = []) (h : ∀ w', Up w w' -> Q .normal a w') : ∀ fuel, wpAnyU P md ops Q S req fuel listed a w
 | 0 => ⟨hr, h⟩
 | _ + 1 => fun w' hw' => ⟨fun _ => h w' hw', by rw [hr]; simp⟩
theorem wp_region_up {id : Nat} {a : Act} {w : World} (hm : P.follows .mixedOrders = true)
   (h : wpAnyU P .any ops Q S req ops.size (Array.replicate ops.size false) a w.drew) : (Code.region id ops true).wp P Q a w :=
 wp_region_any hm (wpAny_of_up _ _ _ _ h)
theorem wp_region_upS {id : Nat} {a : Act} {w : World} (hm : P.follows .mixedOrders = true) (hSup : ∀ w w', S w -> Up w w' -> S w') (hS : S w)
   (h : ∀ w', S w' -> wpAnyU P .any ops Q S req ops.size (Array.replicate ops.size false) a w') : (Code.region id ops true).wp P Q a w :=
 wp_region_up hm (h _ (hSup _ _ hS (Up.drew w)))
theorem wp_region_upH {id : Nat} {a : Act} {w : World} (hm : P.follows .mixedOrders = true) (hSup : ∀ w w', S w -> Up w w' -> S w') (hS : S w)
   (h : ∀ w', S w' -> Hid (∀ w w', S w -> Up w w' -> S w') -> wpAnyU P .any ops Q S req ops.size (Array.replicate ops.size false) a w') : (Code.region id ops true).wp P Q a w :=
 wp_region_upS hm hSup hS fun w' h1 => h w' h1 hSup
theorem below_up {w w1 w2 : World} (h : Below w.heap.size w w1) (hu : Up w1 w2) : Below w.heap.size w w2 := Up.trans h hu
end
end Go.Proofs.YtdpgpchcgmmklaaGreatDoor
namespace Go.Proofs.YtdpgpchcgmmklaaGreatDoor
open Go Go.RowKit
set_option maxRecDepth 100000
def cells (n : Nat) (f : Nat -> Nat) : Array Value := Array.ofFn (n := n) fun i => .int .u64 (f i.val : Nat)
theorem cells_size (n : Nat) (f : Nat -> Nat) : (cells n f).size = n := by simp [cells]
theorem cells_get (n : Nat) (f : Nat -> Nat) (i : Nat) (h : i < n) : (cells n f)[i]? = some (.int .u64 (f i : Nat)) := by simp [cells, h]
theorem cells_congr {n : Nat} {f g : Nat -> Nat} (h : ∀ i, i < n -> f i = g i) : cells n f = cells n g := by
 unfold cells
 congr 1
 funext i
 rw [h i.val i.isLt]
theorem cells_set (n : Nat) (f : Nat -> Nat) (k v : Nat) : (cells n f).setIfInBounds k (.int .u64 (v : Nat)) = cells n (upd f k v) := by
 apply Array.ext_getElem?
 intro i
 rw [Array.getElem?_setIfInBounds, cells_size]
 by_cases hi : i < n
 ·rw [cells_get n f i hi, cells_get n (upd f k v) i hi]
  by_cases e : k = i
  ·subst e; rw [if_pos rfl, if_pos hi, upd_same]
  ·rw [if_neg e, upd_other f k v (fun h => e h.symm)]
 ·rw [Array.getElem?_eq_none (by rw [cells_size]; omega), Array.getElem?_eq_none (by rw [cells_size]; omega)]
  split
  ·rw [if_neg (by omega)]
  ·rfl
theorem cells_one (n : Nat) (f : Nat -> Nat) : (cells n f).all (·.oneCell') = true := by
 rw [Array.all_eq_true_iff_forall_mem]
 intro v hv
 simp only [cells, Array.mem_ofFn] at hv
 obtain ⟨i, rfl⟩ := hv
 rfl
def wideV (x : Nat) : Value := .agg (cells 16 (limb x))
theorem wide_of {f : Nat -> Nat} (h : ∀ i, i < 16 -> f i < 18446744073709551616) : Value.agg (cells 16 f) = wideV (sumL f 16) := by
 unfold wideV
 rw [cells_congr fun i hi => (limb_sumL h hi).symm]
theorem hid {p : Prop} (h : p) : Hid p := h
def Blk (w : World) (b : Nat) (t : TypeId) (C : Array Value) : Prop := w.heap[b]? = some (.cells C t (0, 0))
theorem Blk.lt {w : World} {b : Nat} {t : TypeId} {C : Array Value} (h : Blk w b t C) : b < w.heap.size := (Array.getElem?_eq_some_iff.1 h).1
theorem Blk.cell {w : World} {b : Nat} {t : TypeId} {C : Array Value} (h : Blk w b t C) (i : Nat) {v : Value} (hv : C[i]? = some v) : w.cell? ⟨b, i, none⟩ = some v := by
 rw [cell_of_row _ _ _ _ _ _ h, hv]
theorem Blk.frozen {w : World} {b : Nat} {t : TypeId} {C : Array Value} (h : Blk w b t C) (i : Nat) : w.frozen? ⟨b, i, none⟩ = false := frozen_of_row _ _ _ _ _ h
theorem Blk.up {w w' : World} {b : Nat} {t : TypeId} {C : Array Value} (h : Blk w b t C) (hu : Up w w') : Blk w' b t C := hu.row h
theorem Blk.new {w : World} {b : Nat} (t : TypeId) (C : Array Value) (h : b = w.heap.size) : Blk (w.alloc (.cells C t)) b t C := by
 subst h; exact heap_alloc_new _ _
theorem Blk.old {w : World} {b : Nat} {t : TypeId} {C : Array Value} (h : Blk w b t C) (o : Obj) : Blk (w.alloc o) b t C := h.up (Up.alloc _ _)
theorem Blk.set {w : World} {b : Nat} {t : TypeId} {C : Array Value} (h : Blk w b t C) (i : Nat) (v : Value) : Blk (w.setCell ⟨b, i, none⟩ v) b t (C.setIfInBounds i v) := by
 exact heap_setCell_same _ _ _ _ _ _ h
theorem Blk.other {w : World} {b : Nat} {t : TypeId} {C : Array Value} (h : Blk w b t C) (a : Addr) (v : Value) (hb : b ≠ a.block) : Blk (w.setCell a v) b t C := by
 unfold Blk; rw [heap_setCell_other _ _ _ _ hb]; exact h
theorem Blk.setRow {w : World} {b : Nat} {t : TypeId} {C : Array Value} (h : Blk w b t C) (D : Array Value) : Blk (w.setRow b D) b t D := setRow_heap _ _ _ _ _ _ h
theorem Blk.row_other {w : World} {b g : Nat} {t : TypeId} {C : Array Value} (h : Blk w b t C) (D : Array Value) (hb : b ≠ g) : Blk (w.setRow g D) b t C := by
 unfold Blk; rw [setRow_other _ _ _ _ hb]; exact h
theorem below_setRow {B : Nat} {a w : World} (h : Below B a w) {g : Nat} (hg : B <= g) (D : Array Value) : Below B a (w.setRow g D) :=
 Below.trans h ⟨rfl, rfl, rfl, by simp, fun k hk => setRow_other _ _ _ _ (by omega)⟩
def Row (w : World) (b : Nat) (t : TypeId) (n : Nat) (f : Nat -> Nat) : Prop := Blk w b t (cells n f)
theorem Row.up {w w' : World} {b n : Nat} {t : TypeId} {f : Nat -> Nat} (h : Row w b t n f) (hu : Up w w') : Row w' b t n f := Blk.up h hu
theorem Row.lt {w : World} {b n : Nat} {t : TypeId} {f : Nat -> Nat} (h : Row w b t n f) : b < w.heap.size := Blk.lt h
theorem Row.cell {w : World} {b n : Nat} {t : TypeId} {f : Nat -> Nat} (h : Row w b t n f) (i : Nat) (hi : i < n) : w.cell? ⟨b, i, none⟩ = some (.int .u64 (f i : Nat)) := Blk.cell h i (cells_get n f i hi)
theorem Row.frozen {w : World} {b n : Nat} {t : TypeId} {f : Nat -> Nat} (h : Row w b t n f) (i : Nat) : w.frozen? ⟨b, i, none⟩ = false := Blk.frozen h i
theorem Row.set {w : World} {b n : Nat} {t : TypeId} {f : Nat -> Nat} (h : Row w b t n f) (i v : Nat) : Row (w.setCell ⟨b, i, none⟩ (.int .u64 (v : Nat))) b t n (upd f i v) := by
 have := Blk.set h i (.int .u64 (v : Nat)); rw [cells_set] at this; exact this
theorem Row.other {w : World} {b n : Nat} {t : TypeId} {f : Nat -> Nat} (h : Row w b t n f) (a : Addr) (v : Value) (hb : b ≠ a.block) : Row (w.setCell a v) b t n f := Blk.other h a v hb
theorem Row.setRow {w : World} {b n : Nat} {t : TypeId} {f : Nat -> Nat} (h : Row w b t n f) (g : Nat -> Nat) : Row (w.setRow b (cells n g)) b t n g := Blk.setRow h _
theorem Row.row_other {w : World} {b c n : Nat} {t : TypeId} {f : Nat -> Nat} (h : Row w b t n f) (D : Array Value) (hb : b ≠ c) : Row (w.setRow c D) b t n f := Blk.row_other h D hb
theorem Row.congr {w : World} {b n : Nat} {t : TypeId} {f g : Nat -> Nat} (h : Row w b t n f) (he : ∀ i, i < n -> f i = g i) : Row w b t n g := by
 unfold Row at *; rw [<- cells_congr he]; exact h
theorem row_new {w : World} {b : Nat} (t : TypeId) (n : Nat) (f : Nat -> Nat) (C : Array Value) (h : b = w.heap.size) (hC : C = cells n f) : Row (w.alloc (.cells C t)) b t n f := by
 subst hC; exact Blk.new _ _ h
section
variable {P : Program} {t e : TypeId} {n : Nat} {o : Oper} {a : Act} {w : World}
theorem run_ld (hu : P.underlying t = some (.array n e)) (hi : (P.info? t).map (·.size) = some n) (x : Operand) (ho : o.op = .load t x) (g : Nat) (hx : a.eval x = .pointer (some ⟨g, 0, none⟩)) {f : Nat -> Nat}
   (hC : Row w g t n f) : (execOp a.eval o).run P w = .ok (.value (.agg (cells n f))) w := by
 unfold execOp
 simp only [ho, hx, Instr.loadAt, Instr.sureAddr, Sem.run_bind, Sem.run_pure, Result.andThen_ok, run_loadVar_row w g t t (cells n f) (0, 0) _ hC hu rfl (by rw [hi, cells_size])]
theorem ld_row {ops : Array Oper} {rest : List Oper} {Q : Exit -> Act -> World -> Prop} (hu : P.underlying t = some (.array n e)) (hi : (P.info? t).map (·.size) = some n) (hgd : o.guard = none) (x : Operand) (ho : o.op = .load t x) (g : Nat)
   (hx : a.eval x = .pointer (some ⟨g, 0, none⟩)) {f : Nat -> Nat} (hC : Row w g t n f) (h : wpList P ops Q rest (a.put o.dst (.agg (cells n f))) w) : wpList P ops Q (o :: rest) a w :=
 wpList_load_row hgd t x ho g hx t (cells n f) (0, 0) _ hC hu rfl (by rw [hi, cells_size]) h
theorem wp_st_row {K : Act -> World -> Prop} {Q : Exit -> Act -> World -> Prop} (hi : (P.info? t).map (·.size) = some n) (x y : Operand) (ho : o.op = .store t x y) (g : Nat) (hx : a.eval x = .pointer (some ⟨g, 0, none⟩)) {f v : Nat -> Nat}
   (hy : a.eval y = .agg (cells n v)) (hC : Row w g t n f) (h : K (a.put o.dst undef) (w.setRow g (cells n v))) : o.wp P a w K Q :=
 wp_store_row t x y ho g (cells n v) hx hy t (cells n f) hC (by rw [hi, cells_size]) (by rw [cells_size, cells_size]) (cells_one n v) h
theorem st_row {ops : Array Oper} {rest : List Oper} {Q : Exit -> Act -> World -> Prop} (hi : (P.info? t).map (·.size) = some n) (hgd : o.guard = none) (x y : Operand) (ho : o.op = .store t x y) (g : Nat)
   (hx : a.eval x = .pointer (some ⟨g, 0, none⟩)) {f v : Nat -> Nat} (hy : a.eval y = .agg (cells n v)) (hC : Row w g t n f) (h : wpList P ops Q rest (a.put o.dst undef) (w.setRow g (cells n v))) : wpList P ops Q (o :: rest) a w :=
 wpList_plain hgd fun _ hK => wp_st_row hi x y ho g hx hy hC (hK _ _ h)
theorem wpList_run {ops : Array Oper} {rest : List Oper} {Q : Exit -> Act -> World -> Prop} {v : Value} (hw : Region.wanted o (yielded ops a.tmps) = true) (hr : (execOp a.eval o).run P w = .ok (.value v) w)
   (h : wpList P ops Q rest (a.put o.dst v) w) : wpList P ops Q (o :: rest) a w := by
 refine wpList_step fun K hK => ?_
 rw [if_pos hw]
 unfold Oper.wp
 rw [hr]
 exact hK _ _ h
theorem ld_rowP {ops : Array Oper} {rest : List Oper} {Q : Exit -> Act -> World -> Prop} {d : Option Tmp} {s : Tmp} {ty : TypeId} {pos : String} {af : Array Edge} {gd : Option (Nat × Bool)} (hu : P.underlying t = some (.array n e)) (hi : (P.info? t).map (·.size) = some n)
   {g : Nat} {f : Nat -> Nat} (hw : Region.wanted { dst := d, op := .load t (.tmp s), type := ty, pos := pos, after := af, guard := gd } (yielded ops a.tmps) = true) (hx : a.eval (.tmp s) = .pointer (some ⟨g, 0, none⟩)) (hC : Row w g t n f)
   (h : wpList P ops Q rest (a.put d (.agg (cells n f))) w) : wpList P ops Q ({ dst := d, op := .load t (.tmp s), type := ty, pos := pos, after := af, guard := gd } :: rest) a w :=
 wpList_run hw (run_ld hu hi _ rfl g hx hC) h
theorem st_rowP {ops : Array Oper} {rest : List Oper} {Q : Exit -> Act -> World -> Prop} {d : Option Tmp} {s u : Tmp} {ty : TypeId} {pos : String} {af : Array Edge} (hi : (P.info? t).map (·.size) = some n)
   {g : Nat} {f v : Nat -> Nat} (hx : a.eval (.tmp s) = .pointer (some ⟨g, 0, none⟩)) (hy : a.eval (.tmp u) = .agg (cells n v)) (hC : Row w g t n f) (h : wpList P ops Q rest (a.put d undef) (w.setRow g (cells n v))) :
   wpList P ops Q ({ dst := d, op := .store t (.tmp s) (.tmp u), type := ty, pos := pos, after := af, guard := none } :: rest) a w := st_row hi rfl _ _ rfl g hx hy hC h
theorem run_row (hu : P.underlying t = some (.array n e)) (hi : (P.info? t).map (·.size) = some n) {g : Nat} {f : Nat -> Nat} (hC : Row w g t n f) : (loadVar t ⟨g, 0, none⟩).run P w = .ok (.agg (cells n f)) w :=
 run_loadVar_row w g t t (cells n f) (0, 0) _ hC hu rfl (by rw [hi, cells_size])
theorem res1 {fn : Func} {p : Tmp} (h : fn.results = #[.cell p t]) (hu : P.underlying t = some (.array n e)) (hi : (P.info? t).map (·.size) = some n) (tmps : Array Value) (g : Nat) (hp : tmps.getD p undef = .pointer (some ⟨g, 0, none⟩))
   {f : Nat -> Nat} (hC : Row w g t n f) : (results fn tmps).run P w = .ok (.agg (cells n f)) w := results_cell_row h tmps w g t _ (0, 0) _ hp hC hu rfl (by rw [hi, cells_size])
theorem res2 {fn : Func} {p u : Tmp} (h : fn.results = #[.cell p t, .tmp u]) (hu : P.underlying t = some (.array n e)) (hi : (P.info? t).map (·.size) = some n) (tmps : Array Value) (g : Nat) (hp : tmps.getD p undef = .pointer (some ⟨g, 0, none⟩))
   {f : Nat -> Nat} (hC : Row w g t n f) : (results fn tmps).run P w = .ok (.tuple #[.agg (cells n f), tmps.getD u undef]) w := by
 rw [results_cell_tmp h, hp]
 simp only [asAddr, Sem.run_pure, Result.andThen_ok, run_row hu hi hC]
theorem resCC {fn : Func} {p q : Tmp} (h : fn.results = #[.cell p t, .cell q t]) (hu : P.underlying t = some (.array n e)) (hi : (P.info? t).map (·.size) = some n) (tmps : Array Value) (g k : Nat) (hp : tmps.getD p undef = .pointer (some ⟨g, 0, none⟩))
   (hq : tmps.getD q undef = .pointer (some ⟨k, 0, none⟩)) {f v : Nat -> Nat} (hC : Row w g t n f) (hD : Row w k t n v) : (results fn tmps).run P w = .ok (.tuple #[.agg (cells n f), .agg (cells n v)]) w := by
 have hp' : tmps[p]?.getD undef = .pointer (some ⟨g, 0, none⟩) := by simpa using hp
 have hq' : tmps[q]?.getD undef = .pointer (some ⟨k, 0, none⟩) := by simpa using hq
 simp [results, h, hp', hq', asAddr, run_row hu hi hC, run_row hu hi hD]
theorem resCCT {fn : Func} {p q u : Tmp} (h : fn.results = #[.cell p t, .cell q t, .tmp u]) (hu : P.underlying t = some (.array n e)) (hi : (P.info? t).map (·.size) = some n) (tmps : Array Value) (g k : Nat) (hp : tmps.getD p undef = .pointer (some ⟨g, 0, none⟩))
   (hq : tmps.getD q undef = .pointer (some ⟨k, 0, none⟩)) {f v : Nat -> Nat} (hC : Row w g t n f) (hD : Row w k t n v) : (results fn tmps).run P w = .ok (.tuple #[.agg (cells n f), .agg (cells n v), tmps.getD u undef]) w := by
 have hp' : tmps[p]?.getD undef = .pointer (some ⟨g, 0, none⟩) := by simpa using hp
 have hq' : tmps[q]?.getD undef = .pointer (some ⟨k, 0, none⟩) := by simpa using hq
 simp [results, h, hp', hq', asAddr, run_row hu hi hC, run_row hu hi hD]
end
theorem zeros16 : (#[.int .u64 0, .int .u64 0, .int .u64 0, .int .u64 0, .int .u64 0, .int .u64 0, .int .u64 0, .int .u64 0, .int .u64 0, .int .u64 0, .int .u64 0, .int .u64 0, .int .u64 0, .int .u64 0, .int .u64 0, .int .u64 0] : Array Value) = cells 16 (fun _ => 0) := by kernel_rfl
theorem row_newc {w : World} {b : Nat} (t : TypeId) (n : Nat) (f : Nat -> Nat) (h : b = w.heap.size) : Row (w.alloc (.cells (cells n f) t)) b t n f := row_new t n f _ h rfl
theorem row_newz {w : World} {b : Nat} (t : TypeId) (h : b = w.heap.size) : Row (w.alloc (.cells #[.int .u64 0, .int .u64 0, .int .u64 0, .int .u64 0, .int .u64 0, .int .u64 0, .int .u64 0, .int .u64 0, .int .u64 0, .int .u64 0, .int .u64 0, .int .u64 0, .int .u64 0, .int .u64 0, .int .u64 0, .int .u64 0] t)) b t 16 (fun _ => 0) :=
 row_new t 16 _ _ h zeros16
theorem row_alloc {w : World} {b n : Nat} {t : TypeId} {f : Nat -> Nat} {o : Obj} (h : Row w b t n f) : Row (w.alloc o) b t n f := h.up (Up.alloc _ _)
theorem row_same {w : World} {b n : Nat} {t : TypeId} {f g : Nat -> Nat} (h : Row w b t n f) : Row (w.setRow b (cells n g)) b t n g := h.setRow g
theorem row_else {w : World} {b c n : Nat} {t : TypeId} {f : Nat -> Nat} {D : Array Value} (hb : b ≠ c) (h : Row w b t n f) : Row (w.setRow c D) b t n f := h.row_other D hb
theorem st_rowZ {P : Program} {t : TypeId} {a : Act} {w : World} {ops : Array Oper} {rest : List Oper} {Q : Exit -> Act -> World -> Prop} {d : Option Tmp} {s u : Tmp} {ty : TypeId} {pos : String} {af : Array Edge} (hi : (P.info? t).map (·.size) = some 16)
   {g : Nat} {f : Nat -> Nat} (hx : a.eval (.tmp s) = .pointer (some ⟨g, 0, none⟩)) (hy : a.eval (.tmp u) = .agg #[.int .u64 0, .int .u64 0, .int .u64 0, .int .u64 0, .int .u64 0, .int .u64 0, .int .u64 0, .int .u64 0, .int .u64 0, .int .u64 0, .int .u64 0, .int .u64 0, .int .u64 0, .int .u64 0, .int .u64 0, .int .u64 0]) (hC : Row w g t 16 f) (h : wpList P ops Q rest (a.put d undef) (w.setRow g (cells 16 (fun _ => 0)))) :
   wpList P ops Q ({ dst := d, op := .store t (.tmp s) (.tmp u), type := ty, pos := pos, after := af, guard := none } :: rest) a w := st_rowP hi hx (by rw [hy, zeros16]) hC h
theorem row_up {w w' : World} {b n : Nat} {t : TypeId} {f : Nat -> Nat} (hu : Up w w') (h : Row w b t n f) : Row w' b t n f := h.up hu
theorem Up.of {w w' : World} (h : Below w.heap.size w w') : Up w w' := h
theorem bl_alloc {B : Nat} {a w : World} {o : Obj} (hB : B <= w.heap.size) (h : Below B a w) : Below B a (w.alloc o) := h.alloc hB o
theorem bl_setRow {B g : Nat} {a w : World} {D : Array Value} (hg : B <= g) (h : Below B a w) : Below B a (w.setRow g D) := below_setRow h hg D
theorem up_tr {w W w' : World} (hu : Up W w') (h : Below w.heap.size w W) : Below w.heap.size w w' := Up.trans h hu
theorem undW : Tryz.prog.underlying 78 = some (.array 16 76) := by kernel_rfl
theorem infoW : (Tryz.prog.info? 78).map (·.size) = some 16 := by kernel_rfl
theorem below_drewN {B : Nat} {a w : World} (h : Below B a w) (n : Nat) : Below B a (w.drewN n) := ⟨h.os, h.tape, h.output, h.size, h.block⟩
theorem ret_bool {a b : Bool} (h : a = b) : Ending.returned (.bool a) = .returned (.bool b) := by rw [h]
theorem ret_int {k : IntKind} {a b : Int} (h : a = b) : Ending.returned (.int k a) = .returned (.int k b) := by rw [h]
theorem yu_value {P : Program} {v : Value} {w : World} {r : Result Next} (h : r = .ok (.value v) w) : LeavesU P v w r := by
 subst h; exact ⟨rfl, Up.refl _⟩
theorem yu_call {P : Program} {v : Value} {w : World} {r : Result Next} {f : FuncId} {args : Array Value} (h : r = .ok (.enter f args) w)
   (hc : Calls P f args w fun e w' => e = .returned v /\ Up w w') : LeavesU P v w r := by
 subst h; exact ⟨Up.refl _, hc⟩
def sub64Entry : Array Value -> Sem Value := fun args => do
 let (x, y, b) <- Extern.MathBitsCarry.three "Sub64" args
 pure (Extern.MathBitsCarry.pair ((x + Extern.MathBitsCarry.m64 - y - b) % Extern.MathBitsCarry.m64) (if x < y + b then 1 else 0))
theorem run_sub64 {P : Program} (x y b : Nat) (hb : b <= 1) (w : World) :
   (sub64Entry #[.int .u64 x, .int .u64 y, .int .u64 b]).run P w =
    .ok (.tuple #[.int .u64 (((x + 18446744073709551616 - y - b) % 18446744073709551616 : Nat) : Int), .int .u64 ((if x < y + b then 1 else 0 : Nat) : Int)]) w := by
 have : b = 0 \/ b = 1 := by omega
 rcases this with rfl | rfl <;> rfl
theorem run_add (x y c : Nat) (hc : c <= 1) (w : World) :
   (callFunc 77 #[.int .u64 x, .int .u64 y, .int .u64 c]).run Tryz.prog w =
    .ok (.value (.tuple #[.int .u64 (((x + y + c) % 18446744073709551616 : Nat) : Int), .int .u64 (((x + y + c) / 18446744073709551616 : Nat) : Int)])) w := by
 rw [run_callFunc_extern Tryz.func77 (by kernel_rfl) (by kernel_rfl) (by kernel_rfl) (e := add64Entry) (by kernel_rfl), run_add64 x y c (by omega) (by omega) (by omega) (by omega)]
 simp only [Result.andThen]
 congr 5 <;> omega
theorem run_sub (x y b : Nat) (hb : b <= 1) (w : World) :
   (callFunc 78 #[.int .u64 x, .int .u64 y, .int .u64 b]).run Tryz.prog w =
    .ok (.value (.tuple #[.int .u64 (((x + 18446744073709551616 - y - b) % 18446744073709551616 : Nat) : Int), .int .u64 ((if x < y + b then 1 else 0 : Nat) : Int)])) w := by
 rw [run_callFunc_extern Tryz.func78 (by kernel_rfl) (by kernel_rfl) (by kernel_rfl) (e := sub64Entry) (by kernel_rfl), run_sub64 x y b hb]
 rfl
theorem gRow {w : World} {b n : Nat} {t : TypeId} {f : Nat -> Nat} (h : Row w b t n f := by (repeat (first | assumption | ((with_reducible apply row_newc); (focus (first | rfl | (simp; done)))) | ((with_reducible apply row_newz); (focus (first | rfl | (simp; done)))) | (with_reducible apply row_same) | ((with_reducible apply row_else); (focus (first | (simp; done) | (simp; omega) | omega))) | (with_reducible apply row_alloc) | (with_reducible apply row_drew) | (with_reducible apply row_drewN) | ((with_reducible apply row_up); assumption)))) : Row w b t n f := h
theorem gUp {w w' : World} (h : Up w w' := by repeat (first | assumption | (with_reducible apply Up.of) | (with_reducible exact Below.refl _ _) | (with_reducible exact Up.refl _) | ((with_reducible apply bl_setRow); (focus (first | exact Nat.le_refl _ | (simp; done) | (simp; omega) | omega))) | (with_reducible apply below_drewN) | (with_reducible apply Below.drew) | ((with_reducible apply bl_alloc); (focus (first | exact Nat.le_refl _ | (simp; done) | (simp; omega) | omega))) | ((with_reducible apply bl_setCell); (focus (first | exact Nat.le_refl _ | (simp; done) | (simp; omega) | omega))) | ((with_reducible apply up_tr); assumption))) : Up w w' := h
attribute [irreducible] cells
section
variable {P : Program} {ops : Array Oper} {Q : Exit -> Act -> World -> Prop} {md : Region.Mode} {S : World -> Prop} {req : Nat -> Bool} {oi : Oper} {v : Value} {a a' : Act} {fuel : Nat} {listed : Array Bool} {w : World}
theorem tkP (i : Nat) (d : Option Tmp) (hSup : Hid (∀ w w', S w -> Up w w' -> S w')) (h : wpAnyU P md ops Q S req fuel (listed.setIfInBounds i true) a' w)
   (hi : ops[i]? = some oi := by exact rfl) (hd : oi.dst = d := by exact rfl) (ht : pureB md ops listed i = true := by kernel_rfl) (hw : Region.wanted oi (yielded ops a.tmps) = true := by rfl)
   (hy : ∀ w', (execOp a.eval oi).run P w' = .ok (.value v) w' := by intro w'; go_simp; (try exact rfl)) (ha : a.put d v = a' := by (try simp only [Act.put, pu1, pu2, pu3]); (first | done | rfl))
   (hQ : ∀ c a w, Q (.panic c) (a.put d v) w -> Q (.panic c) a w := by exact fun _ _ _ h => h) : wpAnyU P md ops Q S req (fuel + 1) listed a w := by
 subst ha
 exact wpAnyU_pure hi hd ht hQ hSup.out (.inl ⟨hw, fun w' _ => yu_value (hy w')⟩) h
theorem tkS (i : Nat) (d : Option Tmp) (hSup : Hid (∀ w w', S w -> Up w w' -> S w')) (h : wpAnyU P md ops Q S req fuel (listed.setIfInBounds i true) a' w)
   (hi : ops[i]? = some oi := by exact rfl) (hd : oi.dst = d := by exact rfl) (ht : pureB md ops listed i = true := by kernel_rfl) (hw : Region.wanted oi (yielded ops a.tmps) = false := by rfl)
   (ha : a.put d undef = a' := by (try simp only [Act.put, pu1, pu2, pu3]); (first | done | rfl)) (hQ : ∀ c a w, Q (.panic c) (a.put d undef) w -> Q (.panic c) a w := by exact fun _ _ _ h => h) : wpAnyU P md ops Q S req (fuel + 1) listed a w := by
 subst ha
 exact wpAnyU_pure hi hd ht hQ hSup.out (.inr ⟨hw, rfl⟩) h
theorem tkO (i : Nat) (d : Option Tmp) (hi : ops[i]? = some oi) (hSup : Hid (∀ w w', S w -> Up w w' -> S w')) (h : wpAnyU P md ops Q S req fuel (listed.setIfInBounds i true) a' w)
   (hd : oi.dst = d := by exact rfl) (hy : ∀ w', (execOp a.eval oi).run P w' = .ok (.value v) w') (ht : pureB md ops listed i = true := by kernel_rfl) (hw : Region.wanted oi (yielded ops a.tmps) = true := by rfl)
   (ha : a.put d v = a' := by (try simp only [Act.put, pu1, pu2, pu3]); (first | done | rfl)) (hQ : ∀ c a w, Q (.panic c) (a.put d v) w -> Q (.panic c) a w := by exact fun _ _ _ h => h) : wpAnyU P md ops Q S req (fuel + 1) listed a w := by
 subst ha
 exact wpAnyU_pure hi hd ht hQ hSup.out (.inl ⟨hw, fun w' _ => yu_value (hy w')⟩) h
theorem tkT (i : Nat) (d : Option Tmp) (hi : ops[i]? = some oi) (hSup : Hid (∀ w w', S w -> Up w w' -> S w')) (hS : S w) (h : wpAnyU P md ops Q S req fuel (listed.setIfInBounds i true) a' w)
   (hd : oi.dst = d := by exact rfl) (hy : ∀ w', S w' -> (execOp a.eval oi).run P w' = .ok (.value v) w') (ht : takeB md ops req listed i = true := by kernel_rfl) (hw : Region.wanted oi (yielded ops a.tmps) = true := by rfl)
   (ha : a.put d v = a' := by (try simp only [Act.put, pu1, pu2, pu3]); (first | done | rfl)) (hQ : ∀ c a w, Q (.panic c) (a.put d v) w -> Q (.panic c) a w := by exact fun _ _ _ h => h) : wpAnyU P md ops Q S req (fuel + 1) listed a w := by
 subst ha
 exact wpAnyU_take hi hd ht hQ hSup.out hS (.inl ⟨hw, fun w' hSw => yu_value (hy w' hSw)⟩) h
theorem tkC (i : Nat) (d : Option Tmp) (hi : ops[i]? = some oi) {f : FuncId} {args : Array Value} (hSup : Hid (∀ w w', S w -> Up w w' -> S w')) (hS : S w) (h : wpAnyU P md ops Q S req fuel (listed.setIfInBounds i true) a' w)
   (hd : oi.dst = d := by exact rfl) (hy : ∀ w', S w' -> Calls P f args w' fun e w'' => e = .returned v /\ Up w' w'') (ht : takeB md ops req listed i = true := by kernel_rfl) (hw : Region.wanted oi (yielded ops a.tmps) = true := by rfl)
   (hr : ∀ w', (execOp a.eval oi).run P w' = .ok (.enter f args) w' := by intro w'; go_simp)
   (ha : a.put d v = a' := by (try simp only [Act.put, pu1, pu2, pu3]); (first | done | rfl)) (hQ : ∀ c a w, Q (.panic c) (a.put d v) w -> Q (.panic c) a w := by exact fun _ _ _ h => h) : wpAnyU P md ops Q S req (fuel + 1) listed a w := by
 subst ha
 exact wpAnyU_take hi hd ht hQ hSup.out hS (.inl ⟨hw, fun w' hSw => yu_call (hr w') (hy w' hSw)⟩) h
theorem opU {id : Nat} (hSup : ∀ w w', S w -> Up w w' -> S w') (hS : S w) (h : ∀ w', S w' -> Hid (∀ w w', S w -> Up w w' -> S w') -> wpAnyU P .any ops Q S req ops.size (Array.replicate ops.size false) a w')
   (hm : P.follows .mixedOrders = true := by kernel_rfl) : (Code.region id ops true).wp P Q a w := wp_region_upH hm hSup hS h
end
set_option maxHeartbeats 400000 in
theorem minus_any (x : Nat) (w : World) :
   Calls Tryz.prog 64 #[wideV x] w fun e w' => e = .returned (.bool (decide (9223372036854775808 <= limb x 15))) /\ Up w w' := by
 have hc := cells_get 16 (limb x) 15 (by decide)
 have hl := limb_lt x 15
 unfold wideV
 generalize cells 16 (limb x) = C at *
 generalize limb x 15 = l at *
 go_enter Tryz.func64, Tryz.ntmps64
 go_wp2
 go_ret
 refine ⟨ret_bool ?_, Up.alloc _ _⟩
 rw [Bool.eq_iff_iff, bne_iff_ne, decide_eq_true_iff]
 omega
set_option maxHeartbeats 400000 in
theorem less_any (x y : Nat) (hx : x < bp 16) (hy : y < bp 16) (w : World) :
   Calls Tryz.prog 66 #[wideV x, wideV y] w fun e w' => e = .returned (wideV ((x + bp 16 - y) % bp 16)) /\ Up w w' := by
 unfold wideV
 go_enter Tryz.func66, Tryz.ntmps66
 go_wp2
 go_loopw [5, 7] (fun c i wr => ∃ (k cc : Nat) (g : Nat -> Nat), k <= 16 /\ i = .int .i64 k /\ c = .int .u64 cc /\ cc <= 1 /\ (∀ i, i < 16 -> g i < 18446744073709551616) /\
    (∀ i, k <= i -> i < 16 -> g i = limb x i) /\ sumL g k + sumL (limb y) k = sumL (limb x) k + cc * bp k /\
    Row wr w.heap.size 78 16 g /\ Row wr (w.heap.size + 1) 78 16 (limb y) /\
    Row wr (w.heap.size + 1 + 1) 78 16 (fun _ => 0) /\ Below w.heap.size w wr)
  (fun _ i _ => 16 - (intOf i).toNat)
 case atStart =>
  refine ⟨0, 0, limb x, by omega, rfl, rfl, by omega, fun i _ => limb_lt x i, fun i _ _ => rfl, by simp [sumL_zero], (((row_new _ 16 (limb x) _ rfl rfl).up (Up.alloc _ _)).up (Up.alloc _ _)), (row_new _ 16 (limb y) _ (by simp) rfl).up (Up.alloc _ _), row_new _ 16 _ _ (by simp) zeros16, ?_⟩
  exact (((Below.refl _ _).alloc (Nat.le_refl _) _).alloc (by simp) _).alloc (by simp; omega) _
 case round =>
  obtain ⟨k, cc, g, hk, rfl, rfl, hcc, hg, hgx, hsum, hX, hY, hZ, hB⟩ := hrel
  have Hs := hid hsum
  have Hgx := hid hgx
  clear hsum hgx
  by_cases hlt : k < 16
  ·have hcx := hX.cell k hlt
   have hcy := hY.cell k hlt
   have hfx := hX.frozen k
   obtain ⟨r, c', hadd, hr, hrl, hc1⟩ : ∃ r c' : Nat, (∀ w, (callFunc 78 #[.int .u64 (g k : Nat), .int .u64 (limb y k : Nat), .int .u64 (cc : Nat)]).run Tryz.prog w = .ok (.value (.tuple #[.int .u64 (r : Nat), .int .u64 (c' : Nat)])) w) /\
      Hid (r + limb y k + cc = g k + c' * 18446744073709551616) /\ r < 18446744073709551616 /\ c' <= 1 :=
    ⟨_, _, run_sub (g k) (limb y k) cc hcc, hid (by have := hg k hlt; have := limb_lt y k; split <;> omega), Nat.mod_lt _ (by decide), by split <;> omega⟩
   go_wp2
   refine wp_region_up (S := (fun w' => w'.cell? ⟨w.heap.size, k, none⟩ = some (.int .u64 (g k : Nat)) /\ w'.cell? ⟨w.heap.size + 1, k, none⟩ = some (.int .u64 (limb y k : Nat)))) (req := (fun j => j != 13)) (by kernel_rfl) ?_
   refine wpAnyU_pure (i := 0) (d := (some 11)) (v := ?_) rfl rfl (by kernel_rfl) (fun _ _ _ h => h) (fun _ _ h hu => ⟨hu.cell h.1, hu.cell h.2⟩) (Or.inl ⟨by rfl, fun w' _ => yu_value ?_⟩) ?_
   rotate_left
   ·(go_simp; (try exact rfl))
   try simp only [Act.put, pu1, pu2, pu3]
   refine wpAnyU_pure (i := 1) (d := (some 12)) (v := ?_) rfl rfl (by kernel_rfl) (fun _ _ _ h => h) (fun _ _ h hu => ⟨hu.cell h.1, hu.cell h.2⟩) (Or.inl ⟨by rfl, fun w' _ => yu_value ?_⟩) ?_
   rotate_left
   ·(go_simp; (try exact rfl))
   try simp only [Act.put, pu1, pu2, pu3]
   refine wpAnyU_pure (i := 2) (d := (some 13)) (v := ?_) rfl rfl (by kernel_rfl) (fun _ _ _ h => h) (fun _ _ h hu => ⟨hu.cell h.1, hu.cell h.2⟩) (Or.inl ⟨by rfl, fun w' _ => yu_value ?_⟩) ?_
   rotate_left
   ·(go_simp; (try exact rfl))
   try simp only [Act.put, pu1, pu2, pu3]
   refine wpAnyU_take (i := 3) (d := (some 14)) (v := ?_) rfl rfl (by kernel_rfl) (fun _ _ _ h => h) (fun _ _ h hu => ⟨hu.cell h.1, hu.cell h.2⟩) ⟨hcx, hcy⟩ (Or.inl ⟨by rfl, fun w' hSw => yu_value ?_⟩) ?_
   rotate_left
   ·((try dsimp only at hSw); (try obtain ⟨_, _⟩ := hSw); go_simp; (try exact rfl))
   try simp only [Act.put, pu1, pu2, pu3]
   refine wpAnyU_pure (i := 4) (d := (some 15)) (v := ?_) rfl rfl (by kernel_rfl) (fun _ _ _ h => h) (fun _ _ h hu => ⟨hu.cell h.1, hu.cell h.2⟩) (Or.inl ⟨by rfl, fun w' _ => yu_value ?_⟩) ?_
   rotate_left
   ·(go_simp; (try exact rfl))
   try simp only [Act.put, pu1, pu2, pu3]
   refine wpAnyU_pure (i := 5) (d := (some 16)) (v := ?_) rfl rfl (by kernel_rfl) (fun _ _ _ h => h) (fun _ _ h hu => ⟨hu.cell h.1, hu.cell h.2⟩) (Or.inl ⟨by rfl, fun w' _ => yu_value ?_⟩) ?_
   rotate_left
   ·(go_simp; (try exact rfl))
   try simp only [Act.put, pu1, pu2, pu3]
   refine wpAnyU_take (i := 6) (d := (some 17)) (v := ?_) rfl rfl (by kernel_rfl) (fun _ _ _ h => h) (fun _ _ h hu => ⟨hu.cell h.1, hu.cell h.2⟩) ⟨hcx, hcy⟩ (Or.inl ⟨by rfl, fun w' hSw => yu_value ?_⟩) ?_
   rotate_left
   ·((try dsimp only at hSw); (try obtain ⟨_, _⟩ := hSw); go_simp; (try exact rfl))
   try simp only [Act.put, pu1, pu2, pu3]
   refine wpAnyU_pure (i := 7) (d := (some 18)) (v := ?_) rfl rfl (by kernel_rfl) (fun _ _ _ h => h) (fun _ _ h hu => ⟨hu.cell h.1, hu.cell h.2⟩) (Or.inl ⟨by rfl, fun w' _ => yu_value ?_⟩) ?_
   rotate_left
   ·(go_simp; (try exact rfl))
   try simp only [Act.put, pu1, pu2, pu3]
   refine wpAnyU_pure (i := 8) (d := (some 19)) (v := ?_) rfl rfl (by kernel_rfl) (fun _ _ _ h => h) (fun _ _ h hu => ⟨hu.cell h.1, hu.cell h.2⟩) (Or.inl ⟨by rfl, fun w' _ => yu_value ?_⟩) ?_
   rotate_left
   ·(go_simp; (try exact rfl))
   try simp only [Act.put, pu1, pu2, pu3]
   refine wpAnyU_pure (i := 9) (d := (some 10)) (v := ?_) rfl rfl (by kernel_rfl) (fun _ _ _ h => h) (fun _ _ h hu => ⟨hu.cell h.1, hu.cell h.2⟩) (Or.inl ⟨by rfl, fun w' _ => yu_value ?_⟩) ?_
   rotate_left
   ·(go_simp; (try exact rfl))
   try simp only [Act.put, pu1, pu2, pu3]
   refine wpAnyU_pure (i := 10) (d := (some 20)) (v := ?_) rfl rfl (by kernel_rfl) (fun _ _ _ h => h) (fun _ _ h hu => ⟨hu.cell h.1, hu.cell h.2⟩) (Or.inl ⟨by rfl, fun w' _ => yu_value ?_⟩) ?_
   rotate_left
   ·(go_simp; (try exact rfl))
   try simp only [Act.put, pu1, pu2, pu3]
   refine wpAnyU_pure (i := 11) (d := (some 21)) (v := ?_) rfl rfl (by kernel_rfl) (fun _ _ _ h => h) (fun _ _ h hu => ⟨hu.cell h.1, hu.cell h.2⟩) (Or.inl ⟨by rfl, fun w' _ => yu_value ?_⟩) ?_
   rotate_left
   ·(go_simp; (try exact rfl))
   try simp only [Act.put, pu1, pu2, pu3]
   refine wpAnyU_pure (i := 12) (d := (some 22)) (v := ?_) rfl rfl (by kernel_rfl) (fun _ _ _ h => h) (fun _ _ h hu => ⟨hu.cell h.1, hu.cell h.2⟩) (Or.inl ⟨by rfl, fun w' _ => yu_value ?_⟩) ?_
   rotate_left
   ·(go_simp; (try exact rfl))
   try simp only [Act.put, pu1, pu2, pu3]
   refine wpAnyU_one (i := 13) rfl (by kernel_rfl) (by rfl) fun w1 hw1 => ?_
   have h1 := (hX.up ((Up.drew _).trans hw1)).cell k hlt
   have h2 := (hX.up ((Up.drew _).trans hw1)).frozen k
   go_simp
   refine wpAnyU_pure (i := 14) (d := (some 5)) (v := ?_) rfl rfl (by kernel_rfl) (fun _ _ _ h => h) (fun _ _ h hu => ⟨hu.cell h.1, hu.cell h.2⟩) (Or.inl ⟨by rfl, fun w' _ => yu_value ?_⟩) ?_
   rotate_left
   ·(go_simp; (try exact rfl))
   try simp only [Act.put, pu1, pu2, pu3]
   refine wpAnyU_done (by kernel_rfl) (fun w3 hw3 => ?_) _
   have hu := (Up.drew wr).trans hw1
   have hu2 := hw3
   have gX := ((hX.up hu).set k r).up hu2
   have gY := ((hY.up hu).other ⟨w.heap.size, k, none⟩ (.int .u64 (r : Nat)) (by simp)).up hu2
   have gZ := ((hZ.up hu).other ⟨w.heap.size, k, none⟩ (.int .u64 (r : Nat)) (by simp; omega)).up hu2
   have gB : Below w.heap.size w w3 := hu2.below ((hu.below hB (by have := hX.lt; omega)).setCell (p := ⟨w.heap.size, k, none⟩) (Nat.le_refl _) _) (by have := ((hX.up hu).set k r).lt; omega)
   clear hcx hcy hfx hadd h1 h2 hX hY hZ hB hw1 hw3 hu hu2
   go_wp2
   go_roundw
   case rel =>
    refine ⟨k + 1, c', upd g k r, by omega, by go_num, rfl, hc1, upd_lt hg hrl, fun i h1 h2 => by rw [upd_other _ _ _ (by omega)]; exact Hgx.out i (by omega) h2, ?_, gX, gY, gZ, gB⟩
    have e := hr.out
    rw [Hgx.out k (Nat.le_refl _) hlt] at e
    rw [sumL_upd_succ, bp_succ, sumL_succ, sumL_succ]
    exact sub_step _ _ _ _ _ _ _ _ _ Hs.out e
   case measure => simp [intOf]; omega
  ·obtain rfl : k = 16 := by omega
   go_wp2_with (first | (refine ld_row undW infoW rfl _ rfl _ rfl hX ?_) | (refine st_row infoW rfl _ _ rfl _ rfl rfl hZ ?_))
   have gZ := hZ.setRow g
   exact bodyPost_ret (res1 rfl undW infoW _ _ rfl gZ) rfl ⟨by
    have h := Hs.out
    rw [sumL_limb, sumL_limb, Nat.mod_eq_of_lt hx, Nat.mod_eq_of_lt hy] at h
    have h := sub_final h (sumL_lt hg) hx hy
    rw [wide_of hg, h]; rfl, below_setRow hB (by omega) _⟩
theorem minus_z {z : Int} (h : InR z) (w : World) :
   Calls Tryz.prog 64 #[wideV (enc z)] w fun e w' => e = .returned (.bool (decide (z < 0))) /\ Up w w' := by
 refine (minus_any (enc z) w).mono ?_
 rintro e w' ⟨rfl, hu⟩
 refine ⟨ret_bool ?_, hu⟩
 rw [Bool.eq_iff_iff, decide_eq_true_iff, decide_eq_true_iff, top_iff (enc_lt z), enc_neg_iff h]
theorem less_z (a b : Int) (w : World) :
   Calls Tryz.prog 66 #[wideV (enc a), wideV (enc b)] w fun e w' => e = .returned (wideV (enc (a - b))) /\ Up w w' := by
 refine (less_any (enc a) (enc b) (enc_lt a) (enc_lt b) w).mono ?_
 rintro e w' ⟨rfl, hu⟩
 exact ⟨by rw [enc_sub], hu⟩
theorem zero_limb : cells 16 (fun _ => 0) = cells 16 (limb (enc 0)) := by
 rw [enc_zero]
 exact cells_congr fun i _ => by unfold limb; simp
theorem zeroV : wideV (enc 0) = .agg #[.int .u64 0, .int .u64 0, .int .u64 0, .int .u64 0, .int .u64 0, .int .u64 0, .int .u64 0, .int .u64 0, .int .u64 0, .int .u64 0, .int .u64 0, .int .u64 0, .int .u64 0, .int .u64 0, .int .u64 0, .int .u64 0] := by
 rw [zeros16, zero_limb, wideV]
theorem neg_z (b : Int) (w : World) :
   Calls Tryz.prog 66 #[.agg #[.int .u64 0, .int .u64 0, .int .u64 0, .int .u64 0, .int .u64 0, .int .u64 0, .int .u64 0, .int .u64 0, .int .u64 0, .int .u64 0, .int .u64 0, .int .u64 0, .int .u64 0, .int .u64 0, .int .u64 0, .int .u64 0], .agg (cells 16 (limb (enc b)))] w
    fun e w' => e = .returned (wideV (enc (-b))) /\ Up w w' := by
 have h := less_z 0 b w
 rw [zeroV, Int.zero_sub] at h
 exact h
theorem neg_abs {z : Int} (h : InR z) (hs : z < 0) : enc (-z) = z.natAbs := by
 have h1 := enc_neg h hs
 have h2 := enc_lt z
 have h4 := hb_pos
 have h5 := enc_natAbs h
 have h3 : (enc 0 + bp 16 - enc z) % bp 16 = enc (0 - z) := enc_sub 0 z
 rw [Int.zero_sub] at h3
 rw [<- h3, enc_zero, Nat.zero_add, Nat.mod_eq_of_lt (by omega), h1.1]
 omega
theorem und64 : Tryz.prog.underlying 76 = some (.int .u64) := by kernel_rfl
theorem run_part64 (f : Nat -> Nat) (n i : Nat) (h : i < n) (w : World) : (part 76 (cells n f) i).run Tryz.prog w = .ok (.int .u64 (f i : Nat)) w := by
 have := cells_get n f i h
 simp [part, this]
theorem run_eqItems (f g : Nat -> Nat) (n d : Nat) (w : World) : ∀ is : List Nat, (∀ i ∈ is, i < n) ->
   (Op.eqItems (d + 1) 76 1 (cells n f) (cells n g) is).run Tryz.prog w = .ok (decide (∀ i ∈ is, f i = g i)) w
 | [], _ => by simp [Op.eqItems]
 | i :: is, h => by
   have h1 := run_part64 f n i (h i (by simp)) w
   have h2 := run_part64 g n i (h i (by simp)) w
   have h3 := run_equalIn_int (P := Tryz.prog) w d 76 .u64 .u64 (f i : Nat) (g i : Nat) und64
   have ih := run_eqItems f g n d w is fun j hj => h j (by simp [hj])
   rw [Op.eqItems]
   simp only [Nat.mul_one, Sem.run_bind, h1, h2, h3, Result.andThen_ok]
   by_cases e : f i = g i
   ·have : (!((f i : Int) == (g i : Int))) = false := by simp [e]
    simp only [this, Bool.false_eq_true, if_false, ih]
    congr 1
    simp [e]
   ·have : (!((f i : Int) == (g i : Int))) = true := by simp; omega
    simp only [this, if_true, Sem.run_pure]
    congr 1
    symm
    rw [decide_eq_false_iff_not]
    intro h; exact e (h i (by simp))
theorem limb_eq_iff {x y : Nat} (hx : x < bp 16) (hy : y < bp 16) : (∀ i ∈ List.range 16, limb x i = limb y i) ↔ x = y := by
 constructor
 ·intro h
  rw [<- Nat.mod_eq_of_lt hx, <- Nat.mod_eq_of_lt hy, <- sumL_limb, <- sumL_limb]
  exact sumL_congr fun i hi => h i (by simpa using hi)
 ·intro h i _; rw [h]
theorem run_equalW {x y : Nat} (hx : x < bp 16) (hy : y < bp 16) (w : World) : (Op.equal 78 (.agg (cells 16 (limb x))) (.agg (cells 16 (limb y)))).run Tryz.prog w = .ok (decide (x = y)) w := by
 obtain ⟨i, hi⟩ := Option.isSome_iff_exists.1 (show (Tryz.prog.info? 76).isSome = true by kernel_rfl)
 have hc : Tryz.prog.cellsOf 76 = 1 := by kernel_rfl
 unfold Op.equal
 rw [show Op.maxDepth = 9998 + 1 + 1 from rfl, run_equalIn_array w (9998 + 1) _ _ undW hi, hc, run_eqItems (limb x) (limb y) 16 9998 w (List.range 16) (by simp)]
 congr 1
 rw [Bool.eq_iff_iff, decide_eq_true_iff, decide_eq_true_iff, limb_eq_iff hx hy]
theorem run_eqW {x y : Nat} (hx : x < bp 16) (hy : y < bp 16) (w : World) : (binOp .eql 78 (.agg (cells 16 (limb x))) (.agg (cells 16 (limb y)))).run Tryz.prog w = .ok (.bool (decide (x = y))) w := by
 simp only [binOp, Sem.run_bind, run_equalW hx hy, Result.andThen_ok, Sem.run_pure]
theorem run_neW {x y : Nat} (hx : x < bp 16) (hy : y < bp 16) (w : World) : (binOp .neq 78 (.agg (cells 16 (limb x))) (.agg (cells 16 (limb y)))).run Tryz.prog w = .ok (.bool (!decide (x = y))) w := by
 simp only [binOp, Sem.run_bind, run_equalW hx hy, Result.andThen_ok, Sem.run_pure]
theorem op_eqW {o : Oper} {a : Act} {x y : Operand} {u : TypeId} (ho : o.op = .binOp .eql 78 x y u) {p q : Nat} (hx : a.eval x = .agg (cells 16 (limb p))) (hy : a.eval y = .agg (cells 16 (limb q))) (hp : p < bp 16) (hq : q < bp 16) (w : World) :
   (execOp a.eval o).run Tryz.prog w = .ok (.value (.bool (decide (p = q)))) w := by
 unfold execOp
 simp only [ho, hx, hy, Sem.run_bind, run_eqGuard_agg _ _ _ _ _ _ _ (show Tryz.prog.eqGuardType Tryz.prog.depth 78 = false by kernel_rfl), Result.andThen_ok, run_eqW hp hq, Sem.run_pure]
theorem op_neW {o : Oper} {a : Act} {x y : Operand} {u : TypeId} (ho : o.op = .binOp .neq 78 x y u) {p q : Nat} (hx : a.eval x = .agg (cells 16 (limb p))) (hy : a.eval y = .agg (cells 16 (limb q))) (hp : p < bp 16) (hq : q < bp 16) (w : World) :
   (execOp a.eval o).run Tryz.prog w = .ok (.value (.bool (!decide (p = q)))) w := by
 unfold execOp
 simp only [ho, hx, hy, Sem.run_bind, run_eqGuard_agg _ _ _ _ _ _ _ (show Tryz.prog.eqGuardType Tryz.prog.depth 78 = false by kernel_rfl), Result.andThen_ok, run_neW hp hq, Sem.run_pure]
def IsB (b v : Bool) : Prop := b = v
theorem eqZP {ops : Array Oper} {rest : List Oper} {Q : Exit -> Act -> World -> Prop} {a : Act} {w : World} {d : Option Tmp} {s r : Tmp} {u ty : TypeId} {pos : String} {af : Array Edge} {gd : Option (Nat × Bool)} {p : Nat}
   (hw : Region.wanted { dst := d, op := .binOp .eql 78 (.tmp s) (.tmp r) u, type := ty, pos := pos, after := af, guard := gd } (yielded ops a.tmps) = true) (hx : a.eval (.tmp s) = .agg (cells 16 (limb p))) (hy : a.eval (.tmp r) = .agg #[.int .u64 0, .int .u64 0, .int .u64 0, .int .u64 0, .int .u64 0, .int .u64 0, .int .u64 0, .int .u64 0, .int .u64 0, .int .u64 0, .int .u64 0, .int .u64 0, .int .u64 0, .int .u64 0, .int .u64 0, .int .u64 0]) (hp : p < bp 16) {v : Bool} (hv : IsB (decide (p = 0)) v)
   (h : wpList Tryz.prog ops Q rest (a.put d (.bool (v))) w) : wpList Tryz.prog ops Q ({ dst := d, op := .binOp .eql 78 (.tmp s) (.tmp r) u, type := ty, pos := pos, after := af, guard := gd } :: rest) a w :=
 wpList_run hw (op_eqW rfl hx (by rw [hy, zeros16, zero_limb, enc_zero]) hp (bp_pos 16) w) (by rw [show decide (p = 0) = v from hv]; exact h)
theorem neZP {ops : Array Oper} {rest : List Oper} {Q : Exit -> Act -> World -> Prop} {a : Act} {w : World} {d : Option Tmp} {s r : Tmp} {u ty : TypeId} {pos : String} {af : Array Edge} {gd : Option (Nat × Bool)} {p : Nat}
   (hw : Region.wanted { dst := d, op := .binOp .neq 78 (.tmp s) (.tmp r) u, type := ty, pos := pos, after := af, guard := gd } (yielded ops a.tmps) = true) (hx : a.eval (.tmp s) = .agg (cells 16 (limb p))) (hy : a.eval (.tmp r) = .agg #[.int .u64 0, .int .u64 0, .int .u64 0, .int .u64 0, .int .u64 0, .int .u64 0, .int .u64 0, .int .u64 0, .int .u64 0, .int .u64 0, .int .u64 0, .int .u64 0, .int .u64 0, .int .u64 0, .int .u64 0, .int .u64 0]) (hp : p < bp 16) {v : Bool} (hv : IsB (decide (p = 0)) v)
   (h : wpList Tryz.prog ops Q rest (a.put d (.bool (!v))) w) : wpList Tryz.prog ops Q ({ dst := d, op := .binOp .neq 78 (.tmp s) (.tmp r) u, type := ty, pos := pos, after := af, guard := gd } :: rest) a w :=
 wpList_run hw (op_neW rfl hx (by rw [hy, zeros16, zero_limb, enc_zero]) hp (bp_pos 16) w) (by rw [show decide (p = 0) = v from hv]; exact h)
set_option maxHeartbeats 400000 in
theorem amount_z {z : Int} (hz : InR z) (w : World) :
   Calls Tryz.prog 89 #[wideV (enc z)] w fun e w' => e = .returned (wideV z.natAbs) /\ Up w w' := by
 by_cases hs : z < 0
 ·have e := neg_abs hz hs
  rw [<- e]
  clear e
  have hdec : decide (z < 0) = true := by simpa using hs
  unfold wideV at *
  go_enter Tryz.func89, Tryz.ntmps89
  go_wp2_with (first | ((with_reducible apply ld_rowP undW infoW); exact rfl; exact rfl; exact gRow) | ((with_reducible apply st_rowP infoW); exact rfl; exact rfl; exact gRow) | ((with_reducible apply st_rowZ infoW); exact rfl; exact rfl; exact gRow) | (go_at_call 64; refine (minus_z hz _).mono ?_; rintro e w' ⟨rfl, hu⟩) | (go_at_call 66; refine (neg_z z _).mono ?_; rintro e w' ⟨rfl, hu⟩))
  exact bodyPost_ret (res1 rfl undW infoW _ _ rfl gRow) rfl ⟨rfl, gUp⟩
 ·have e : enc z = z.natAbs := (enc_nn hz (by omega)).1
  rw [<- e]
  clear e
  have hdec : decide (z < 0) = false := by simpa using hs
  unfold wideV at *
  go_enter Tryz.func89, Tryz.ntmps89
  go_wp2_with (first | ((with_reducible apply ld_rowP undW infoW); exact rfl; exact rfl; exact gRow) | ((with_reducible apply st_rowP infoW); exact rfl; exact rfl; exact gRow) | ((with_reducible apply st_rowZ infoW); exact rfl; exact rfl; exact gRow) | (go_at_call 64; refine (minus_z hz _).mono ?_; rintro e w' ⟨rfl, hu⟩))
  exact bodyPost_ret (res1 rfl undW infoW _ _ rfl gRow) rfl ⟨rfl, gUp⟩
theorem enc_nat {n : Nat} (h : n < bp 16) : enc (n : Int) = n := by
 unfold enc
 rw [<- Int.natCast_emod, Int.toNat_natCast, Nat.mod_eq_of_lt h]
theorem minus_e (z : Int) (w : World) :
   Calls Tryz.prog 64 #[wideV (enc z)] w fun e w' => e = .returned (.bool (decide (hb <= enc z))) /\ Up w w' := by
 refine (minus_any (enc z) w).mono ?_
 rintro e w' ⟨rfl, hu⟩
 refine ⟨ret_bool ?_, hu⟩
 rw [Bool.eq_iff_iff, decide_eq_true_iff, decide_eq_true_iff, top_iff (enc_lt z)]
def pm (neg : Bool) (n : Nat) : Int := if neg then -(n : Int) else n
theorem signed_ok {n : Nat} (hn : n < bp 16) (neg : Bool) : InR (pm neg n) ↔ (decide (hb <= enc (pm neg n)) = neg \/ n = 0) := by
 have h1 := hb_pos
 have h2 := bp16
 cases neg with
 | false =>
   have e : enc (pm false n) = n := enc_nat hn
   rw [e]
   simp only [pm, Bool.false_eq_true, if_false, decide_eq_false_iff_not]
   constructor
   ·intro h; have := h.out; omega
   ·intro h; exact InR.mk' (by omega)
 | true =>
   have e : n = 0 \/ enc (pm true n) = bp 16 - n := by
    by_cases h : n = 0
    ·exact .inl h
    ·right
     have h3 := enc_sub 0 (n : Int)
     rw [Int.zero_sub, enc_zero, enc_nat hn, Nat.zero_add, Nat.mod_eq_of_lt (by omega)] at h3
     exact h3.symm
   simp only [pm, if_true, decide_eq_true_iff] at *
   rcases e with e | e
   ·subst e
    simp only [or_true, iff_true]
    exact InR.mk' (by omega)
   ·rw [e]
    constructor
    ·intro h; have := h.out; omega
    ·intro h; exact InR.mk' (by omega)
def opt (z : Int) : Value := .tuple #[wideV (enc (if InR z then z else 0)), .bool (decide (InR z))]
theorem opt_yes {z : Int} (h : InR z) : opt z = .tuple #[wideV (enc z), .bool true] := by simp [opt, h]
theorem opt_no {z : Int} (h : ¬ InR z) : opt z = .tuple #[.agg (cells 16 (fun _ => 0)), .bool false] := by
 rw [zero_limb]
 simp [opt, h, wideV]
set_option maxHeartbeats 400000 in
theorem signed_any {n : Nat} (hn : n < bp 16) (neg : Bool) (w : World) :
   Calls Tryz.prog 90 #[wideV n, .bool neg] w fun e w' => e = .returned (opt (pm neg n)) /\ Up w w' := by
 have hok := signed_ok hn neg
 have hc := minus_e (pm neg n)
 have hneg := neg_z (n : Int)
 rw [enc_nat hn] at hneg
 have hx : neg = false -> wideV (enc (pm neg n)) = wideV n := fun h => by subst h; rw [show pm false n = (n : Int) from rfl, enc_nat hn]
 have hb0 := hn
 have HC := hid hc
 have HN := hid hneg
 clear hc hneg
 by_cases h : InR (pm neg n)
 ·rw [opt_yes h]
  have h1 := hok.1 h
  clear hok h
  cases neg with
  | false =>
    have e := hx rfl
    rw [e] at HC ⊢
    clear e hx
    unfold wideV at *
    by_cases h2 : hb <= enc (pm false n)
    ·have h3 : n = 0 := by simpa [h2] using h1
     have hd : decide (hb <= enc (pm false n)) = true := by simpa using h2
     have hd2 : IsB (decide (n = 0)) true := decide_eq_true h3
     rw [hd] at HC
     clear h1 h2 hd h3
     go_enter Tryz.func90, Tryz.ntmps90
     go_wp2_with (first | ((with_reducible apply ld_rowP undW infoW); exact rfl; exact rfl; exact gRow) | ((with_reducible apply st_rowP infoW); exact rfl; exact rfl; exact gRow) | ((with_reducible apply st_rowZ infoW); exact rfl; exact rfl; exact gRow) | ((with_reducible apply eqP); exact rfl; exact rfl; exact rfl; assumption; assumption; assumption) | ((with_reducible apply eqZP); exact rfl; exact rfl; exact rfl; assumption; assumption) | ((with_reducible apply neP); exact rfl; exact rfl; exact rfl; assumption; assumption; assumption) | ((with_reducible apply neZP); exact rfl; exact rfl; exact rfl; assumption; assumption) | (go_at_call 64; refine (HC.out _).mono ?_; rintro e w' ⟨rfl, hu⟩))
     exact bodyPost_ret (res2 rfl undW infoW _ _ rfl gRow) rfl ⟨rfl, gUp⟩
    ·have hd : decide (hb <= enc (pm false n)) = false := by simpa using h2
     rw [hd] at HC
     clear h1 h2 hd
     go_enter Tryz.func90, Tryz.ntmps90
     go_wp2_with (first | ((with_reducible apply ld_rowP undW infoW); exact rfl; exact rfl; exact gRow) | ((with_reducible apply st_rowP infoW); exact rfl; exact rfl; exact gRow) | ((with_reducible apply st_rowZ infoW); exact rfl; exact rfl; exact gRow) | ((with_reducible apply eqP); exact rfl; exact rfl; exact rfl; assumption; assumption; assumption) | ((with_reducible apply eqZP); exact rfl; exact rfl; exact rfl; assumption; assumption) | ((with_reducible apply neP); exact rfl; exact rfl; exact rfl; assumption; assumption; assumption) | ((with_reducible apply neZP); exact rfl; exact rfl; exact rfl; assumption; assumption) | (go_at_call 64; refine (HC.out _).mono ?_; rintro e w' ⟨rfl, hu⟩))
     exact bodyPost_ret (res2 rfl undW infoW _ _ rfl gRow) rfl ⟨rfl, gUp⟩
  | true =>
    have e : wideV (enc (-(n : Int))) = wideV (enc (pm true n)) := rfl
    clear hx
    by_cases h2 : hb <= enc (pm true n)
    ·have hd : decide (hb <= enc (pm true n)) = true := by simpa using h2
     rw [hd] at HC
     rw [e] at HN
     clear h1 h2 hd e
     unfold wideV at *
     go_enter Tryz.func90, Tryz.ntmps90
     go_wp2_with (first | ((with_reducible apply ld_rowP undW infoW); exact rfl; exact rfl; exact gRow) | ((with_reducible apply st_rowP infoW); exact rfl; exact rfl; exact gRow) | ((with_reducible apply st_rowZ infoW); exact rfl; exact rfl; exact gRow) | ((with_reducible apply eqP); exact rfl; exact rfl; exact rfl; assumption; assumption; assumption) | ((with_reducible apply eqZP); exact rfl; exact rfl; exact rfl; assumption; assumption) | ((with_reducible apply neP); exact rfl; exact rfl; exact rfl; assumption; assumption; assumption) | ((with_reducible apply neZP); exact rfl; exact rfl; exact rfl; assumption; assumption) | (go_at_call 64; refine (HC.out _).mono ?_; rintro e w' ⟨rfl, hu⟩) | (go_at_call 66; refine (HN.out _).mono ?_; rintro e w' ⟨rfl, hu⟩))
     exact bodyPost_ret (res2 rfl undW infoW _ _ rfl gRow) rfl ⟨rfl, gUp⟩
    ·have h3 : n = 0 := by simpa [h2] using h1
     have hd : decide (hb <= enc (pm true n)) = false := by simpa using h2
     have hd2 : IsB (decide (n = 0)) true := decide_eq_true h3
     rw [hd] at HC
     rw [e] at HN
     clear h1 h2 hd e h3
     unfold wideV at *
     go_enter Tryz.func90, Tryz.ntmps90
     go_wp2_with (first | ((with_reducible apply ld_rowP undW infoW); exact rfl; exact rfl; exact gRow) | ((with_reducible apply st_rowP infoW); exact rfl; exact rfl; exact gRow) | ((with_reducible apply st_rowZ infoW); exact rfl; exact rfl; exact gRow) | ((with_reducible apply eqP); exact rfl; exact rfl; exact rfl; assumption; assumption; assumption) | ((with_reducible apply eqZP); exact rfl; exact rfl; exact rfl; assumption; assumption) | ((with_reducible apply neP); exact rfl; exact rfl; exact rfl; assumption; assumption; assumption) | ((with_reducible apply neZP); exact rfl; exact rfl; exact rfl; assumption; assumption) | (go_at_call 64; refine (HC.out _).mono ?_; rintro e w' ⟨rfl, hu⟩) | (go_at_call 66; refine (HN.out _).mono ?_; rintro e w' ⟨rfl, hu⟩))
     exact bodyPost_ret (res2 rfl undW infoW _ _ rfl gRow) rfl ⟨rfl, gUp⟩
 ·rw [opt_no h]
  have h1 : ¬ (decide (hb <= enc (pm neg n)) = neg \/ n = 0) := fun h' => h (hok.2 h')
  have hd2 : IsB (decide (n = 0)) false := decide_eq_false fun e => h1 (.inr e)
  have hd : decide (hb <= enc (pm neg n)) = !neg := by
   cases neg <;> simp_all
  rw [hd] at HC
  clear hok h hd h1
  cases neg with
  | false =>
    have e := hx rfl
    rw [e] at HC
    clear e hx
    unfold wideV at *
    go_enter Tryz.func90, Tryz.ntmps90
    go_wp2_with (first | ((with_reducible apply ld_rowP undW infoW); exact rfl; exact rfl; exact gRow) | ((with_reducible apply st_rowP infoW); exact rfl; exact rfl; exact gRow) | ((with_reducible apply st_rowZ infoW); exact rfl; exact rfl; exact gRow) | ((with_reducible apply eqP); exact rfl; exact rfl; exact rfl; assumption; assumption; assumption) | ((with_reducible apply eqZP); exact rfl; exact rfl; exact rfl; assumption; assumption) | ((with_reducible apply neP); exact rfl; exact rfl; exact rfl; assumption; assumption; assumption) | ((with_reducible apply neZP); exact rfl; exact rfl; exact rfl; assumption; assumption) | (go_at_call 64; refine (HC.out _).mono ?_; rintro e w' ⟨rfl, hu⟩) | (go_at_call 66; refine (HN.out _).mono ?_; rintro e w' ⟨rfl, hu⟩))
    exact bodyPost_ret (res2 rfl undW infoW _ _ rfl gRow) rfl ⟨rfl, gUp⟩
  | true =>
    have e : wideV (enc (-(n : Int))) = wideV (enc (pm true n)) := rfl
    rw [e] at HN
    clear e hx
    unfold wideV at *
    go_enter Tryz.func90, Tryz.ntmps90
    go_wp2_with (first | ((with_reducible apply ld_rowP undW infoW); exact rfl; exact rfl; exact gRow) | ((with_reducible apply st_rowP infoW); exact rfl; exact rfl; exact gRow) | ((with_reducible apply st_rowZ infoW); exact rfl; exact rfl; exact gRow) | ((with_reducible apply eqP); exact rfl; exact rfl; exact rfl; assumption; assumption; assumption) | ((with_reducible apply eqZP); exact rfl; exact rfl; exact rfl; assumption; assumption) | ((with_reducible apply neP); exact rfl; exact rfl; exact rfl; assumption; assumption; assumption) | ((with_reducible apply neZP); exact rfl; exact rfl; exact rfl; assumption; assumption) | (go_at_call 64; refine (HC.out _).mono ?_; rintro e w' ⟨rfl, hu⟩) | (go_at_call 66; refine (HN.out _).mono ?_; rintro e w' ⟨rfl, hu⟩))
    exact bodyPost_ret (res2 rfl undW infoW _ _ rfl gRow) rfl ⟨rfl, gUp⟩
set_option maxHeartbeats 400000 in
theorem order_any (x y : Nat) (hx : x < bp 16) (hy : y < bp 16) (w : World) :
   Calls Tryz.prog 96 #[wideV x, wideV y] w fun e w' => e = .returned (.int .i64 (ordZ x y)) /\ Up w w' := by
 unfold wideV
 go_enter Tryz.func96, Tryz.ntmps96
 go_wp2
 go_loopw [5] (fun i wr => ∃ m : Nat, m <= 16 /\ i = .int .i64 ((m : Int) - 1) /\ (∀ i, m <= i -> i < 16 -> limb x i = limb y i) /\
    Row wr w.heap.size 78 16 (limb x) /\ Row wr (w.heap.size + 1) 78 16 (limb y) /\ Below w.heap.size w wr)
  (fun i _ => (intOf i + 1).toNat)
 case atStart =>
  refine ⟨16, by omega, rfl, fun i _ _ => by omega, (row_new _ 16 (limb x) _ rfl rfl).up (Up.alloc _ _), (row_new _ 16 (limb y) _ (by simp) rfl), ?_⟩
  exact (((Below.refl _ _).alloc (Nat.le_refl _) _).alloc (by simp) _)
 case round =>
  obtain ⟨m, hm, rfl, hgx, hX, hY, hB⟩ := hrel
  have Hgx := hid hgx
  clear hgx
  by_cases hlt : 0 < m
  ·obtain ⟨k, rfl⟩ : ∃ k, m = k + 1 := ⟨m - 1, by omega⟩
   have e : (((k + 1 : Nat) : Int) - 1) = (k : Int) := by omega
   rw [e]
   clear e
   have hcx := hX.cell k (by omega)
   have hcy := hY.cell k (by omega)
   have hl1 := limb_lt x k
   have hl2 := limb_lt y k
   have hlx : (∀ i, i < 16 -> limb x i < 18446744073709551616) := fun i _ => limb_lt x i
   have hly : (∀ i, i < 16 -> limb y i < 18446744073709551616) := fun i _ => limb_lt y i
   have sx := sumL_limb x 16
   have sy := sumL_limb y 16
   rw [Nat.mod_eq_of_lt hx] at sx
   rw [Nat.mod_eq_of_lt hy] at sy
   have h1 : limb x k < limb y k -> ordZ x y = -1 := fun h => by
    have := sumL_lt_of hlx (show k < 16 by omega) (fun j h1 h2 => Hgx.out j (by omega) h2) h
    rw [sx, sy] at this
    simp [ordZ, this]
   have h2 : limb y k < limb x k -> ordZ x y = 1 := fun h => by
    have := sumL_lt_of hly (show k < 16 by omega) (fun j h1 h2 => (Hgx.out j (by omega) h2).symm) h
    rw [sx, sy] at this
    have h3 : ¬ x < y := by omega
    simp [ordZ, this, h3]
   have H1 := hid h1
   have H2 := hid h2
   have hE : limb x k = limb y k -> ∀ i, k <= i -> i < 16 -> limb x i = limb y i := fun h i h1 h2 => by
    by_cases e : i = k
    ·rw [e]; exact h
    ·exact Hgx.out i (by omega) h2
   have HE := hid hE
   clear hlx hly sx sy h1 h2 hE
   generalize limb x k = a at *
   generalize limb y k = b at *
   rcases Nat.lt_trichotomy a b with h | h | h
   ·go_wp2
    go_quiet (fail)
    go_wp2
    go_ret
    exact ⟨ret_int (H1.out h).symm, below_drewN hB _⟩
   ·subst h
    have HF := hid (HE.out rfl)
    clear HE
    go_wp2
    go_quiet (fail)
    go_wp2
    go_quiet (fail)
    go_wp2
    go_roundw
    case rel => exact ⟨k, by omega, by go_num, HF.out, hX, hY, below_drewN hB _⟩
    case measure => simp [intOf] <;> omega
   ·have h' : ¬ a < b := by omega
    go_wp2
    go_quiet (fail)
    go_wp2
    go_quiet (fail)
    go_wp2
    go_ret
    exact ⟨ret_int (H2.out h).symm, below_drewN (below_drewN hB _) _⟩
  ·obtain rfl : m = 0 := by omega
   have h0 : x = y := by
    rw [<- Nat.mod_eq_of_lt hx, <- Nat.mod_eq_of_lt hy, <- sumL_limb, <- sumL_limb]
    exact sumL_congr fun i hi => Hgx.out i (by omega) hi
   have H0 := hid h0
   clear h0
   go_wp2
   go_ret
   exact ⟨ret_int (by simp [ordZ, H0.out]), hB⟩
set_option maxHeartbeats 400000 in
theorem length_any (x : Nat) (w : World) :
   Calls Tryz.prog 93 #[wideV x] w fun e w' => e = .returned (.int .i64 (lenL (limb x) 16 : Nat)) /\ Up w w' := by
 unfold wideV
 go_enter Tryz.func93, Tryz.ntmps93
 go_wp2
 go_loopw [3] (fun i wr => ∃ m : Nat, m <= 16 /\ i = .int .i64 m /\ (∀ i, m <= i -> i < 16 -> limb x i = 0) /\
    Row wr w.heap.size 78 16 (limb x) /\ Below w.heap.size w wr)
  (fun i _ => (intOf i).toNat)
 case atStart => exact ⟨16, by omega, rfl, fun i _ _ => by omega, gRow, gUp⟩
 case round =>
  obtain ⟨m, hm, rfl, hg, hX, hB⟩ := hrel
  have Hg := hid hg
  clear hg
  by_cases hlt : 0 < m
  ·obtain ⟨k, rfl⟩ : ∃ k, m = k + 1 := ⟨m - 1, by omega⟩
   have hc := hX.cell k (by omega)
   have hl := limb_lt x k
   have hA : limb x k = 0 -> ∀ i, k <= i -> i < 16 -> limb x i = 0 := fun h i h1 h2 => by
    by_cases e : i = k
    ·rw [e]; exact h
    ·exact Hg.out i (by omega) h2
   have hE : limb x k ≠ 0 -> lenL (limb x) 16 = k + 1 := fun h => lenL_of _ hm (fun i h1 h2 => Hg.out i h1 h2) (.inr (by simpa using h))
   have HA := hid hA
   have HE := hid hE
   clear hA hE
   generalize limb x k = a at *
   by_cases h0 : a = 0
   ·have HF := hid (HA.out h0)
    subst h0
    clear HA HE
    go_wp2
    go_roundw
    case rel => exact ⟨k, by omega, by go_num, HF.out, hX, hB⟩
    case measure => simp [intOf]
   ·have HF := hid (HE.out h0)
    have hb : ((a : Int) == 0) = false := by simpa using h0
    clear HA HE h0
    go_wp2
    go_ret
    exact ⟨ret_int (by rw [HF.out]; first | done | go_num), hB⟩
  ·obtain rfl : m = 0 := by omega
   have HF := hid (lenL_of (limb x) (Nat.zero_le 16) (fun i h1 h2 => Hg.out i h1 h2) (.inl rfl))
   go_wp2
   go_ret
   exact ⟨ret_int (by rw [HF.out]; first | done | rfl), hB⟩
end Go.Proofs.YtdpgpchcgmmklaaGreatDoor
namespace Go.Proofs
open Go.Shelf
def Tryz.lays134_ren : Go.Shelf.Ren := ⟨fun | 134 => 100 | 129 => 108 | n => n, fun | 53 => 76 | 3 => 3 | 4 => 4 | 46 => 103 | 5 => 5 | 9 => 9 | n => n, fun | n => n⟩
theorem Tryz.lays134 : Go.Proofs.Lays.n134 Tryz.prog Tryz.lays134_ren := {
 mixed := by kernel_rfl
 f129 := Tryz.func108.trans (congrArg some (by kernel_rfl))
 f134 := Tryz.func100.trans (congrArg some (by kernel_rfl))
 t3 := Tryz.underlying3
 a3 := Tryz.isAgg3
 z3 := Tryz.sizeOf3
 v3 := Tryz.zeroValue3
 t4 := Tryz.underlying4
 a4 := Tryz.isAgg4
 z4 := Tryz.sizeOf4
 v4 := Tryz.zeroValue4
 t5 := Tryz.underlying5
 a5 := Tryz.isAgg5
 z5 := Tryz.sizeOf5
 v5 := Tryz.zeroValue5
 t9 := Tryz.underlying9
 a9 := Tryz.isAgg9
 z9 := Tryz.sizeOf9
 v9 := Tryz.zeroValue9
 t46 := Tryz.underlying103
 a46 := Tryz.isAgg103
 z46 := Tryz.sizeOf103
 v46 := Tryz.zeroValue103
 t53 := Tryz.underlying76
 a53 := Tryz.isAgg76
 z53 := Tryz.sizeOf76
 v53 := Tryz.zeroValue76 }
theorem Tryz.bits_LeadingZeros64 (x : Int) (w : World) (h0 : 0 <= x) (h1 : x <= 18446744073709551615) :
   Calls Tryz.prog 100 #[.int .u64 x] w fun e w' => e = .returned (.int .i64 (64 - (Lib.bitLen x.toNat : Int))) /\ w' = w := Any.bits_LeadingZeros64 Tryz.lays134 x w h0 h1
def Tryz.lays264_ren : Go.Shelf.Ren := ⟨fun | 264 => 79 | n => n, fun | 53 => 76 | 46 => 103 | n => n, fun | n => n⟩
theorem Tryz.lays264 : Go.Proofs.Lays.n264 Tryz.prog Tryz.lays264_ren := {
 mixed := by kernel_rfl
 f264 := Tryz.func79.trans (congrArg some (by kernel_rfl))
 t46 := Tryz.underlying103
 a46 := Tryz.isAgg103
 z46 := Tryz.sizeOf103
 v46 := Tryz.zeroValue103
 t53 := Tryz.underlying76
 a53 := Tryz.isAgg76
 z53 := Tryz.sizeOf76
 v53 := Tryz.zeroValue76 }
open Go.RowKit Go.Lib in
theorem Tryz.bits_Mul64 (x y : Nat) (hx : x < 18446744073709551616) (hy : y < 18446744073709551616) (w : World) :
   Calls Tryz.prog 79 #[.int .u64 x, .int .u64 y] w fun e w' => e = .returned (.tuple #[.int .u64 ((x * y / 18446744073709551616 : Nat) : Int), .int .u64 ((x * y % 18446744073709551616 : Nat) : Int)]) /\ w' = w := Any.bits_Mul64 Tryz.lays264 x y hx hy w
end Go.Proofs
namespace Go.Proofs.YtdpgpchcgmmklaaGreatDoor
open Go Go.RowKit
set_option maxRecDepth 100000
theorem bitLen_spec {x : Nat} (h : x < 18446744073709551616) (h0 : x ≠ 0) : 1 <= Lib.bitLen x /\ 2 ^ (Lib.bitLen x - 1) <= x /\ x < 2 ^ Lib.bitLen x /\ Lib.bitLen x <= 64 := by
 have h1 := Lib.bitLenAux_bounds 64 x h h0
 refine ⟨h1.1, h1.2.1, h1.2.2, ?_⟩
 have h2 : 2 ^ (Lib.bitLenAux 64 x - 1) < 2 ^ 64 := by have := h1.2.1; omega
 have := (Nat.pow_lt_pow_iff_right (show 1 < 2 by decide)).1 h2
 have h3 := h1.1
 unfold Lib.bitLen
 omega
def sgn (z : Int) : Int := if z < 0 then -1 else if z = 0 then 0 else 1
theorem enc_eq_zero {z : Int} (hz : InR z) : enc z = 0 ↔ z = 0 := by
 constructor
 ·intro h
  refine enc_inj hz (InR.mk' ?_) (h.trans enc_zero.symm)
  have := hb_pos; omega
 ·intro h; rw [h, enc_zero]
set_option maxHeartbeats 400000 in
theorem sign_z {z : Int} (hz : InR z) (w : World) :
   Calls Tryz.prog 44 #[wideV (enc z)] w fun e w' => e = .returned (.int .i64 (sgn z)) /\ Up w w' := by
 have HM := hid (fun w => minus_z hz w)
 have hlt := enc_lt z
 have hq := enc_eq_zero hz
 by_cases hs : z < 0
 ·have e : sgn z = -1 := by simp [sgn, hs]
  have hd : decide (z < 0) = true := by simpa using hs
  rw [hd] at HM
  rw [e]
  clear e hd hs hq
  unfold wideV at *
  go_enter Tryz.func44, Tryz.ntmps44
  go_wp2_with (first | ((with_reducible apply ld_rowP undW infoW); exact rfl; exact rfl; exact gRow) | ((with_reducible apply eqP); exact rfl; exact rfl; exact rfl; assumption; assumption; assumption) | ((with_reducible apply eqZP); exact rfl; exact rfl; exact rfl; assumption; assumption) | ((with_reducible apply neP); exact rfl; exact rfl; exact rfl; assumption; assumption; assumption) | ((with_reducible apply neZP); exact rfl; exact rfl; exact rfl; assumption; assumption) | (go_at_call 64; refine (HM.out _).mono ?_; rintro e w' ⟨rfl, hu⟩))
  go_ret
  exact ⟨rfl, gUp⟩
 ·have hd : decide (z < 0) = false := by simpa using hs
  rw [hd] at HM
  by_cases h0 : z = 0
  ·have e : sgn z = 0 := by simp [sgn, h0]
   have hd2 : IsB (decide (enc z = 0)) true := decide_eq_true (hq.2 h0)
   rw [e]
   clear e hd hs hq h0
   unfold wideV at *
   go_enter Tryz.func44, Tryz.ntmps44
   go_wp2_with (first | ((with_reducible apply ld_rowP undW infoW); exact rfl; exact rfl; exact gRow) | ((with_reducible apply eqP); exact rfl; exact rfl; exact rfl; assumption; assumption; assumption) | ((with_reducible apply eqZP); exact rfl; exact rfl; exact rfl; assumption; assumption) | ((with_reducible apply neP); exact rfl; exact rfl; exact rfl; assumption; assumption; assumption) | ((with_reducible apply neZP); exact rfl; exact rfl; exact rfl; assumption; assumption) | (go_at_call 64; refine (HM.out _).mono ?_; rintro e w' ⟨rfl, hu⟩))
   go_ret
   exact ⟨rfl, gUp⟩
  ·have e : sgn z = 1 := by simp [sgn, h0, hs]
   have hd2 : IsB (decide (enc z = 0)) false := decide_eq_false fun h => h0 (hq.1 h)
   rw [e]
   clear e hd hs hq h0
   unfold wideV at *
   go_enter Tryz.func44, Tryz.ntmps44
   go_wp2_with (first | ((with_reducible apply ld_rowP undW infoW); exact rfl; exact rfl; exact gRow) | ((with_reducible apply eqP); exact rfl; exact rfl; exact rfl; assumption; assumption; assumption) | ((with_reducible apply eqZP); exact rfl; exact rfl; exact rfl; assumption; assumption) | ((with_reducible apply neP); exact rfl; exact rfl; exact rfl; assumption; assumption; assumption) | ((with_reducible apply neZP); exact rfl; exact rfl; exact rfl; assumption; assumption) | (go_at_call 64; refine (HM.out _).mono ?_; rintro e w' ⟨rfl, hu⟩))
   go_ret
   exact ⟨rfl, gUp⟩
def cmpZ (a b : Int) : Int := if a < b then -1 else if b < a then 1 else 0
theorem of_sum (v : Int) (h1 : -9223372036854775808 <= v) (h2 : v < 9223372036854775808) :
   sumL (upd (fun _ => if v < 0 then 18446744073709551615 else 0) 0 (v % 18446744073709551616).toNat) 16 = enc v := by
 have hs : ∀ (A V n : Nat), 1 <= n -> sumL (upd (fun _ => A) 0 V) n * 18446744073709551615 = V * 18446744073709551615 + A * (bp n - 18446744073709551616) := by
  intro A V n hn
  obtain ⟨k, rfl⟩ : ∃ k, n = k + 1 := ⟨n - 1, by omega⟩
  clear hn
  induction k with
  | zero => rw [sumL_succ, sumL_zero, bp_zero, upd_same, bp_succ, bp_zero]; simp
  | succ k ih =>
    have h : 18446744073709551616 <= bp (k + 1) := by rw [bp_succ]; have := bp_pos k; omega
    have e : bp (k + 1 + 1) - 18446744073709551616 = (bp (k + 1) - 18446744073709551616) + bp (k + 1) * 18446744073709551615 := by rw [bp_succ (k + 1)]; omega
    rw [sumL_succ, Nat.add_mul, ih, upd_other _ _ _ (by omega), e, Nat.mul_add, Nat.mul_assoc, Nat.add_assoc]
 have h3 := bp16
 have hb6 : 18446744073709551616 <= bp 16 := by rw [bp_succ]; have := bp_pos 15; omega
 have hbb : 9223372036854775808 <= hb := by omega
 by_cases h0 : v < 0
 ·have e := enc_neg (z := v) (InR.mk' (by omega)) h0
  rw [if_pos h0, e.1]
  have e2 : (v % 18446744073709551616).toNat = 18446744073709551616 - v.natAbs := by omega
  rw [e2]
  have h : sumL (upd (fun _ => 18446744073709551615) 0 (18446744073709551616 - v.natAbs)) 16 * 18446744073709551615 = (18446744073709551616 - v.natAbs) * 18446744073709551615 + 18446744073709551615 * (bp 16 - 18446744073709551616) := hs _ _ 16 (by decide)
  generalize sumL _ 16 = S at *
  omega
 ·have e := enc_nn (z := v) (InR.mk' (by omega)) (by omega)
  rw [if_neg h0, e.1]
  have h : sumL (upd (fun _ => 0) 0 (v % 18446744073709551616).toNat) 16 * 18446744073709551615 = (v % 18446744073709551616).toNat * 18446744073709551615 + 0 * (bp 16 - 18446744073709551616) := hs _ _ 16 (by decide)
  generalize sumL _ 16 = S at *
  omega
set_option maxHeartbeats 400000 in
theorem of_any (v : Int) (h1 : -9223372036854775808 <= v) (h2 : v < 9223372036854775808) (w : World) :
   Calls Tryz.prog 43 #[.int .i64 v] w fun e w' => e = .returned (wideV (enc v)) /\ Up w w' := by
 have hsum := of_sum v h1 h2
 obtain ⟨A, eA, hA, HA⟩ : ∃ A : Nat, IntKind.u64.wrap (v / 9223372036854775808) = (A : Int) /\ A < 18446744073709551616 /\ A = if v < 0 then 18446744073709551615 else 0 := by
  refine ⟨_, ?_, ?_, rfl⟩
  ·rw [IntKind.wrap_u64]; split <;> omega
  ·split <;> omega
 obtain ⟨V, eV, hV, HV⟩ : ∃ V : Nat, IntKind.u64.wrap v = (V : Int) /\ V < 18446744073709551616 /\ V = (v % 18446744073709551616).toNat := by
  refine ⟨_, ?_, ?_, rfl⟩
  ·rw [IntKind.wrap_u64]; omega
  ·omega
 rw [<- HA, <- HV] at hsum
 have HS := hid hsum
 clear hsum HA HV
 generalize enc v = E at *
 go_enter Tryz.func43, Tryz.ntmps43
 go_wp2
 go_loopw [9] (fun i wr => ∃ k : Nat, k <= 16 /\ i = .int .i64 k /\ Row wr w.heap.size 78 16 (fun _ => 0) /\ Row wr (w.heap.size + 1) 78 16 (fun i => if i < k then A else 0) /\ Below w.heap.size w wr)
  (fun i _ => 16 - (intOf i).toNat)
 case atStart => exact ⟨0, by omega, rfl, gRow, Row.congr (f := fun _ => 0) gRow (by simp), gUp⟩
 case round =>
  obtain ⟨k, hk, rfl, hR, hX, hB⟩ := hrel
  by_cases hlt : k < 16
  ·have hc := hX.cell k hlt
   have hf := hX.frozen k
   have hX2 := hX.set k A
   have hR2 := hR.other ⟨w.heap.size + 1, k, none⟩ (.int .u64 (A : Nat)) (by simp)
   have hB2 := hB.setCell (p := ⟨w.heap.size + 1, k, none⟩) (by simp) (.int .u64 (A : Nat))
   go_wp2
   go_roundw
   case rel =>
    refine ⟨k + 1, by omega, by go_num, hR2, Row.congr hX2 fun i hi => ?_, hB2⟩
    unfold upd
    split
    ·exact (if_pos (by omega)).symm
    ·show (if i < k then A else 0) = if i < k + 1 then A else 0
     split
     ·rw [if_pos (by omega)]
     ·rw [if_neg (by omega)]
   case measure => simp [intOf] <;> omega
  ·obtain rfl : k = 16 := by omega
   have hc := hX.cell 0 (by omega)
   have hf := hX.frozen 0
   have hX2 : Row (wr.setCell ⟨w.heap.size + 1, 0, none⟩ (.int .u64 (V : Nat))) (w.heap.size + 1) 78 16 (upd (fun _ => A) 0 V) := Row.congr (hX.set 0 V) fun i hi => by
    unfold upd
    split
    ·rfl
    ·exact if_pos hi
   have hR2 := hR.other ⟨w.heap.size + 1, 0, none⟩ (.int .u64 (V : Nat)) (by simp)
   have hB2 := hB.setCell (p := ⟨w.heap.size + 1, 0, none⟩) (by simp) (.int .u64 (V : Nat))
   go_wp2_with (first | ((with_reducible apply ld_rowP undW infoW); exact rfl; exact rfl; exact gRow) | ((with_reducible apply st_rowP infoW); exact rfl; exact rfl; exact gRow) | ((with_reducible apply st_rowZ infoW); exact rfl; exact rfl; exact gRow))
   exact bodyPost_ret (res1 rfl undW infoW _ _ rfl gRow) rfl ⟨by
    rw [wide_of (upd_lt (fun _ _ => hA) hV), HS.out], gUp⟩
def i64V (z : Int) : Value := .tuple #[.int .i64 (if -9223372036854775808 <= z /\ z < 9223372036854775808 then z else 0), .bool (decide (-9223372036854775808 <= z /\ z < 9223372036854775808))]
theorem limb0 (x : Nat) : limb x 0 = x % 18446744073709551616 := by unfold limb; rw [bp_zero, Nat.div_one]
theorem less_ok {a b : Int} (ha : InR a) (hb' : InR b) : ((a < 0 ↔ ¬ b < 0) -> ((decide (hb <= enc (a - b)) = decide (a < 0)) ↔ InR (a - b))) /\ (¬ (a < 0 ↔ ¬ b < 0) -> InR (a - b)) := by
 have h1 := ha.out
 have h2 := hb'.out
 have h3 := bp16
 have h4 := hb_pos
 constructor
 ·intro h
  by_cases a0 : a < 0
  ·have e : enc (a - b) = if a - b = -(bp 16 : Int) then 0 else (a - b + bp 16).toNat := by
    unfold enc
    split
    ·rename_i e; rw [e, Int.neg_emod_self]; rfl
    ·rw [<- Int.add_emod_right, Int.emod_eq_of_lt (by omega) (by omega)]
   rw [e, decide_eq_true a0, decide_eq_true_iff]
   constructor
   ·intro h5
    refine InR.mk' ?_
    split at h5 <;> omega
   ·intro h5
    have := h5.out
    split <;> omega
  ·have e : enc (a - b) = (a - b).toNat := by
    unfold enc
    rw [Int.emod_eq_of_lt (by omega) (by omega)]
   rw [e, decide_eq_false a0, decide_eq_false_iff_not]
   constructor
   ·intro h5; exact InR.mk' (by omega)
   ·intro h5; have := h5.out; omega
 ·intro h
  exact InR.mk' (by omega)
set_option maxHeartbeats 1000000 in
theorem sub_z {a b : Int} (ha : InR a) (hb' : InR b) (w : World) :
   Calls Tryz.prog 46 #[wideV (enc a), wideV (enc b)] w fun e w' => e = .returned (opt (a - b)) /\ Up w w' := by
 have HA := hid (fun w => minus_z ha w)
 have HB := hid (fun w => minus_z hb' w)
 have HM := hid (fun w => minus_e (a - b) w)
 have HP := hid (fun w => less_z a b w)
 obtain ⟨hk1, hk2⟩ := less_ok ha hb'
 by_cases a0 : a < 0
 ·have hd : decide (a < 0) = true := by simpa using a0
  rw [hd] at HA hk1
  by_cases b0 : b < 0
  ·have hd2 : decide (b < 0) = true := by simpa using b0
   rw [hd2] at HB
   rw [opt_yes (hk2 (by simp [a0, b0]))]
   clear hk1 hk2 hd hd2 a0 b0
   unfold wideV at *
   go_enter Tryz.func46, Tryz.ntmps46
   go_wp2_with (first | ((with_reducible apply ld_rowP undW infoW); exact rfl; exact rfl; exact gRow) | ((with_reducible apply st_rowP infoW); exact rfl; exact rfl; exact gRow) | ((with_reducible apply st_rowZ infoW); exact rfl; exact rfl; exact gRow) | (go_at_call 66; refine (HP.out _).mono ?_; rintro e w' ⟨rfl, hu⟩; have hsz := hu.size; simp at hsz))
   refine opU (S := (fun wq => Row wq w.heap.size 78 16 (limb (enc a)) /\ Row wq (w.heap.size + 1) 78 16 (limb (enc b)) /\ Row wq (w.heap.size + 1 + 1) 78 16 (fun _ => 0) /\ Row wq w'.heap.size 78 16 (limb (enc (a - b))) /\ Below w.heap.size w wq)) (req := (fun _ => true)) (fun _ _ h hu => ⟨(h.1).up hu, (h.2.1).up hu, (h.2.2.1).up hu, (h.2.2.2.1).up hu, below_up (h.2.2.2.2) hu⟩) ⟨gRow, gRow, gRow, gRow, gUp⟩ (fun wS hSS hSu => ?_)
   have ⟨hS1, hS2, hS3, hS4, hSB⟩ := hSS
   clear hu
   refine tkT 0 (some 10) rfl hSu hSS ?_ (hy := fun w' hSw => run_ld undW infoW _ rfl _ rfl hSw.1)
   refine tkC 1 (some 11) rfl hSu hSS ?_ (hy := fun w' hSw => (HA.out _))
   refine tkT 2 (some 12) rfl hSu hSS ?_ (hy := fun w' hSw => run_ld undW infoW _ rfl _ rfl hSw.2.1)
   refine tkC 3 (some 13) rfl hSu hSS ?_ (hy := fun w' hSw => (HB.out _))
   refine tkP 4 (some 14) hSu ?_
   refine tkP 5 (some 15) hSu ?_
   refine tkS 6 (some 16) hSu ?_
   refine tkS 7 (some 17) hSu ?_
   refine tkS 8 (some 18) hSu ?_
   refine tkS 9 (some 19) hSu ?_
   refine tkS 10 (some 20) hSu ?_
   refine tkP 11 (some 21) hSu ?_
   refine wpAnyU_done (by kernel_rfl) (fun wE huE => ?_) _
   have ⟨hS1, hS2, hS3, hS4, hSB⟩ := hSu.out _ _ hSS huE
   clear huE hSS
   go_wp2_with (first | ((with_reducible apply ld_rowP undW infoW); exact rfl; exact rfl; exact gRow) | ((with_reducible apply st_rowP infoW); exact rfl; exact rfl; exact gRow) | ((with_reducible apply st_rowZ infoW); exact rfl; exact rfl; exact gRow))
   exact bodyPost_ret (res2 rfl undW infoW _ _ rfl gRow) rfl ⟨rfl, gUp⟩
  ·have hd2 : decide (b < 0) = false := by simpa using b0
   rw [hd2] at HB
   have hk := hk1 (by simp [a0, b0])
   by_cases hs : hb <= enc (a - b)
   ·have hd3 : decide (hb <= enc (a - b)) = true := by simpa using hs
    rw [hd3] at HM hk
    rw [opt_yes (hk.1 rfl)]
    clear hk1 hk2 hk hs hd hd2 hd3 a0 b0
    unfold wideV at *
    go_enter Tryz.func46, Tryz.ntmps46
    go_wp2_with (first | ((with_reducible apply ld_rowP undW infoW); exact rfl; exact rfl; exact gRow) | ((with_reducible apply st_rowP infoW); exact rfl; exact rfl; exact gRow) | ((with_reducible apply st_rowZ infoW); exact rfl; exact rfl; exact gRow) | (go_at_call 66; refine (HP.out _).mono ?_; rintro e w' ⟨rfl, hu⟩; have hsz := hu.size; simp at hsz))
    refine opU (S := (fun wq => Row wq w.heap.size 78 16 (limb (enc a)) /\ Row wq (w.heap.size + 1) 78 16 (limb (enc b)) /\ Row wq (w.heap.size + 1 + 1) 78 16 (fun _ => 0) /\ Row wq w'.heap.size 78 16 (limb (enc (a - b))) /\ Below w.heap.size w wq)) (req := (fun _ => true)) (fun _ _ h hu => ⟨(h.1).up hu, (h.2.1).up hu, (h.2.2.1).up hu, (h.2.2.2.1).up hu, below_up (h.2.2.2.2) hu⟩) ⟨gRow, gRow, gRow, gRow, gUp⟩ (fun wS hSS hSu => ?_)
    have ⟨hS1, hS2, hS3, hS4, hSB⟩ := hSS
    clear hu
    refine tkT 0 (some 10) rfl hSu hSS ?_ (hy := fun w' hSw => run_ld undW infoW _ rfl _ rfl hSw.1)
    refine tkC 1 (some 11) rfl hSu hSS ?_ (hy := fun w' hSw => (HA.out _))
    refine tkT 2 (some 12) rfl hSu hSS ?_ (hy := fun w' hSw => run_ld undW infoW _ rfl _ rfl hSw.2.1)
    refine tkC 3 (some 13) rfl hSu hSS ?_ (hy := fun w' hSw => (HB.out _))
    refine tkP 4 (some 14) hSu ?_
    refine tkP 5 (some 15) hSu ?_
    refine tkT 6 (some 16) rfl hSu hSS ?_ (hy := fun w' hSw => run_ld undW infoW _ rfl _ rfl hSw.2.2.2.1)
    refine tkC 7 (some 17) rfl hSu hSS ?_ (hy := fun w' hSw => (HM.out _))
    refine tkT 8 (some 18) rfl hSu hSS ?_ (hy := fun w' hSw => run_ld undW infoW _ rfl _ rfl hSw.1)
    refine tkC 9 (some 19) rfl hSu hSS ?_ (hy := fun w' hSw => (HA.out _))
    refine tkP 10 (some 20) hSu ?_
    refine tkP 11 (some 21) hSu ?_
    refine wpAnyU_done (by kernel_rfl) (fun wE huE => ?_) _
    have ⟨hS1, hS2, hS3, hS4, hSB⟩ := hSu.out _ _ hSS huE
    clear huE hSS
    go_wp2_with (first | ((with_reducible apply ld_rowP undW infoW); exact rfl; exact rfl; exact gRow) | ((with_reducible apply st_rowP infoW); exact rfl; exact rfl; exact gRow) | ((with_reducible apply st_rowZ infoW); exact rfl; exact rfl; exact gRow))
    exact bodyPost_ret (res2 rfl undW infoW _ _ rfl gRow) rfl ⟨rfl, gUp⟩
   ·have hd3 : decide (hb <= enc (a - b)) = false := by simpa using hs
    rw [hd3] at HM hk
    rw [opt_no fun h => by simpa using hk.2 h]
    clear hk1 hk2 hk hs hd hd2 hd3 a0 b0
    unfold wideV at *
    go_enter Tryz.func46, Tryz.ntmps46
    go_wp2_with (first | ((with_reducible apply ld_rowP undW infoW); exact rfl; exact rfl; exact gRow) | ((with_reducible apply st_rowP infoW); exact rfl; exact rfl; exact gRow) | ((with_reducible apply st_rowZ infoW); exact rfl; exact rfl; exact gRow) | (go_at_call 66; refine (HP.out _).mono ?_; rintro e w' ⟨rfl, hu⟩; have hsz := hu.size; simp at hsz))
    refine opU (S := (fun wq => Row wq w.heap.size 78 16 (limb (enc a)) /\ Row wq (w.heap.size + 1) 78 16 (limb (enc b)) /\ Row wq (w.heap.size + 1 + 1) 78 16 (fun _ => 0) /\ Row wq w'.heap.size 78 16 (limb (enc (a - b))) /\ Below w.heap.size w wq)) (req := (fun _ => true)) (fun _ _ h hu => ⟨(h.1).up hu, (h.2.1).up hu, (h.2.2.1).up hu, (h.2.2.2.1).up hu, below_up (h.2.2.2.2) hu⟩) ⟨gRow, gRow, gRow, gRow, gUp⟩ (fun wS hSS hSu => ?_)
    have ⟨hS1, hS2, hS3, hS4, hSB⟩ := hSS
    clear hu
    refine tkT 0 (some 10) rfl hSu hSS ?_ (hy := fun w' hSw => run_ld undW infoW _ rfl _ rfl hSw.1)
    refine tkC 1 (some 11) rfl hSu hSS ?_ (hy := fun w' hSw => (HA.out _))
    refine tkT 2 (some 12) rfl hSu hSS ?_ (hy := fun w' hSw => run_ld undW infoW _ rfl _ rfl hSw.2.1)
    refine tkC 3 (some 13) rfl hSu hSS ?_ (hy := fun w' hSw => (HB.out _))
    refine tkP 4 (some 14) hSu ?_
    refine tkP 5 (some 15) hSu ?_
    refine tkT 6 (some 16) rfl hSu hSS ?_ (hy := fun w' hSw => run_ld undW infoW _ rfl _ rfl hSw.2.2.2.1)
    refine tkC 7 (some 17) rfl hSu hSS ?_ (hy := fun w' hSw => (HM.out _))
    refine tkT 8 (some 18) rfl hSu hSS ?_ (hy := fun w' hSw => run_ld undW infoW _ rfl _ rfl hSw.1)
    refine tkC 9 (some 19) rfl hSu hSS ?_ (hy := fun w' hSw => (HA.out _))
    refine tkP 10 (some 20) hSu ?_
    refine tkP 11 (some 21) hSu ?_
    refine wpAnyU_done (by kernel_rfl) (fun wE huE => ?_) _
    have ⟨hS1, hS2, hS3, hS4, hSB⟩ := hSu.out _ _ hSS huE
    clear huE hSS
    go_wp2_with (first | ((with_reducible apply ld_rowP undW infoW); exact rfl; exact rfl; exact gRow) | ((with_reducible apply st_rowP infoW); exact rfl; exact rfl; exact gRow) | ((with_reducible apply st_rowZ infoW); exact rfl; exact rfl; exact gRow))
    exact bodyPost_ret (res2 rfl undW infoW _ _ rfl gRow) rfl ⟨rfl, gUp⟩
 ·have hd : decide (a < 0) = false := by simpa using a0
  rw [hd] at HA hk1
  by_cases b0 : b < 0
  ·have hd2 : decide (b < 0) = true := by simpa using b0
   rw [hd2] at HB
   have hk := hk1 (by simp [a0, b0])
   by_cases hs : hb <= enc (a - b)
   ·have hd3 : decide (hb <= enc (a - b)) = true := by simpa using hs
    rw [hd3] at HM hk
    rw [opt_no fun h => by simpa using hk.2 h]
    clear hk1 hk2 hk hs hd hd2 hd3 a0 b0
    unfold wideV at *
    go_enter Tryz.func46, Tryz.ntmps46
    go_wp2_with (first | ((with_reducible apply ld_rowP undW infoW); exact rfl; exact rfl; exact gRow) | ((with_reducible apply st_rowP infoW); exact rfl; exact rfl; exact gRow) | ((with_reducible apply st_rowZ infoW); exact rfl; exact rfl; exact gRow) | (go_at_call 66; refine (HP.out _).mono ?_; rintro e w' ⟨rfl, hu⟩; have hsz := hu.size; simp at hsz))
    refine opU (S := (fun wq => Row wq w.heap.size 78 16 (limb (enc a)) /\ Row wq (w.heap.size + 1) 78 16 (limb (enc b)) /\ Row wq (w.heap.size + 1 + 1) 78 16 (fun _ => 0) /\ Row wq w'.heap.size 78 16 (limb (enc (a - b))) /\ Below w.heap.size w wq)) (req := (fun _ => true)) (fun _ _ h hu => ⟨(h.1).up hu, (h.2.1).up hu, (h.2.2.1).up hu, (h.2.2.2.1).up hu, below_up (h.2.2.2.2) hu⟩) ⟨gRow, gRow, gRow, gRow, gUp⟩ (fun wS hSS hSu => ?_)
    have ⟨hS1, hS2, hS3, hS4, hSB⟩ := hSS
    clear hu
    refine tkT 0 (some 10) rfl hSu hSS ?_ (hy := fun w' hSw => run_ld undW infoW _ rfl _ rfl hSw.1)
    refine tkC 1 (some 11) rfl hSu hSS ?_ (hy := fun w' hSw => (HA.out _))
    refine tkT 2 (some 12) rfl hSu hSS ?_ (hy := fun w' hSw => run_ld undW infoW _ rfl _ rfl hSw.2.1)
    refine tkC 3 (some 13) rfl hSu hSS ?_ (hy := fun w' hSw => (HB.out _))
    refine tkP 4 (some 14) hSu ?_
    refine tkP 5 (some 15) hSu ?_
    refine tkT 6 (some 16) rfl hSu hSS ?_ (hy := fun w' hSw => run_ld undW infoW _ rfl _ rfl hSw.2.2.2.1)
    refine tkC 7 (some 17) rfl hSu hSS ?_ (hy := fun w' hSw => (HM.out _))
    refine tkT 8 (some 18) rfl hSu hSS ?_ (hy := fun w' hSw => run_ld undW infoW _ rfl _ rfl hSw.1)
    refine tkC 9 (some 19) rfl hSu hSS ?_ (hy := fun w' hSw => (HA.out _))
    refine tkP 10 (some 20) hSu ?_
    refine tkP 11 (some 21) hSu ?_
    refine wpAnyU_done (by kernel_rfl) (fun wE huE => ?_) _
    have ⟨hS1, hS2, hS3, hS4, hSB⟩ := hSu.out _ _ hSS huE
    clear huE hSS
    go_wp2_with (first | ((with_reducible apply ld_rowP undW infoW); exact rfl; exact rfl; exact gRow) | ((with_reducible apply st_rowP infoW); exact rfl; exact rfl; exact gRow) | ((with_reducible apply st_rowZ infoW); exact rfl; exact rfl; exact gRow))
    exact bodyPost_ret (res2 rfl undW infoW _ _ rfl gRow) rfl ⟨rfl, gUp⟩
   ·have hd3 : decide (hb <= enc (a - b)) = false := by simpa using hs
    rw [hd3] at HM hk
    rw [opt_yes (hk.1 rfl)]
    clear hk1 hk2 hk hs hd hd2 hd3 a0 b0
    unfold wideV at *
    go_enter Tryz.func46, Tryz.ntmps46
    go_wp2_with (first | ((with_reducible apply ld_rowP undW infoW); exact rfl; exact rfl; exact gRow) | ((with_reducible apply st_rowP infoW); exact rfl; exact rfl; exact gRow) | ((with_reducible apply st_rowZ infoW); exact rfl; exact rfl; exact gRow) | (go_at_call 66; refine (HP.out _).mono ?_; rintro e w' ⟨rfl, hu⟩; have hsz := hu.size; simp at hsz))
    refine opU (S := (fun wq => Row wq w.heap.size 78 16 (limb (enc a)) /\ Row wq (w.heap.size + 1) 78 16 (limb (enc b)) /\ Row wq (w.heap.size + 1 + 1) 78 16 (fun _ => 0) /\ Row wq w'.heap.size 78 16 (limb (enc (a - b))) /\ Below w.heap.size w wq)) (req := (fun _ => true)) (fun _ _ h hu => ⟨(h.1).up hu, (h.2.1).up hu, (h.2.2.1).up hu, (h.2.2.2.1).up hu, below_up (h.2.2.2.2) hu⟩) ⟨gRow, gRow, gRow, gRow, gUp⟩ (fun wS hSS hSu => ?_)
    have ⟨hS1, hS2, hS3, hS4, hSB⟩ := hSS
    clear hu
    refine tkT 0 (some 10) rfl hSu hSS ?_ (hy := fun w' hSw => run_ld undW infoW _ rfl _ rfl hSw.1)
    refine tkC 1 (some 11) rfl hSu hSS ?_ (hy := fun w' hSw => (HA.out _))
    refine tkT 2 (some 12) rfl hSu hSS ?_ (hy := fun w' hSw => run_ld undW infoW _ rfl _ rfl hSw.2.1)
    refine tkC 3 (some 13) rfl hSu hSS ?_ (hy := fun w' hSw => (HB.out _))
    refine tkP 4 (some 14) hSu ?_
    refine tkP 5 (some 15) hSu ?_
    refine tkT 6 (some 16) rfl hSu hSS ?_ (hy := fun w' hSw => run_ld undW infoW _ rfl _ rfl hSw.2.2.2.1)
    refine tkC 7 (some 17) rfl hSu hSS ?_ (hy := fun w' hSw => (HM.out _))
    refine tkT 8 (some 18) rfl hSu hSS ?_ (hy := fun w' hSw => run_ld undW infoW _ rfl _ rfl hSw.1)
    refine tkC 9 (some 19) rfl hSu hSS ?_ (hy := fun w' hSw => (HA.out _))
    refine tkP 10 (some 20) hSu ?_
    refine tkP 11 (some 21) hSu ?_
    refine wpAnyU_done (by kernel_rfl) (fun wE huE => ?_) _
    have ⟨hS1, hS2, hS3, hS4, hSB⟩ := hSu.out _ _ hSS huE
    clear huE hSS
    go_wp2_with (first | ((with_reducible apply ld_rowP undW infoW); exact rfl; exact rfl; exact gRow) | ((with_reducible apply st_rowP infoW); exact rfl; exact rfl; exact gRow) | ((with_reducible apply st_rowZ infoW); exact rfl; exact rfl; exact gRow))
    exact bodyPost_ret (res2 rfl undW infoW _ _ rfl gRow) rfl ⟨rfl, gUp⟩
  ·have hd2 : decide (b < 0) = false := by simpa using b0
   rw [hd2] at HB
   rw [opt_yes (hk2 (by simp [a0, b0]))]
   clear hk1 hk2 hd hd2 a0 b0
   unfold wideV at *
   go_enter Tryz.func46, Tryz.ntmps46
   go_wp2_with (first | ((with_reducible apply ld_rowP undW infoW); exact rfl; exact rfl; exact gRow) | ((with_reducible apply st_rowP infoW); exact rfl; exact rfl; exact gRow) | ((with_reducible apply st_rowZ infoW); exact rfl; exact rfl; exact gRow) | (go_at_call 66; refine (HP.out _).mono ?_; rintro e w' ⟨rfl, hu⟩; have hsz := hu.size; simp at hsz))
   refine opU (S := (fun wq => Row wq w.heap.size 78 16 (limb (enc a)) /\ Row wq (w.heap.size + 1) 78 16 (limb (enc b)) /\ Row wq (w.heap.size + 1 + 1) 78 16 (fun _ => 0) /\ Row wq w'.heap.size 78 16 (limb (enc (a - b))) /\ Below w.heap.size w wq)) (req := (fun _ => true)) (fun _ _ h hu => ⟨(h.1).up hu, (h.2.1).up hu, (h.2.2.1).up hu, (h.2.2.2.1).up hu, below_up (h.2.2.2.2) hu⟩) ⟨gRow, gRow, gRow, gRow, gUp⟩ (fun wS hSS hSu => ?_)
   have ⟨hS1, hS2, hS3, hS4, hSB⟩ := hSS
   clear hu
   refine tkT 0 (some 10) rfl hSu hSS ?_ (hy := fun w' hSw => run_ld undW infoW _ rfl _ rfl hSw.1)
   refine tkC 1 (some 11) rfl hSu hSS ?_ (hy := fun w' hSw => (HA.out _))
   refine tkT 2 (some 12) rfl hSu hSS ?_ (hy := fun w' hSw => run_ld undW infoW _ rfl _ rfl hSw.2.1)
   refine tkC 3 (some 13) rfl hSu hSS ?_ (hy := fun w' hSw => (HB.out _))
   refine tkP 4 (some 14) hSu ?_
   refine tkP 5 (some 15) hSu ?_
   refine tkS 6 (some 16) hSu ?_
   refine tkS 7 (some 17) hSu ?_
   refine tkS 8 (some 18) hSu ?_
   refine tkS 9 (some 19) hSu ?_
   refine tkS 10 (some 20) hSu ?_
   refine tkP 11 (some 21) hSu ?_
   refine wpAnyU_done (by kernel_rfl) (fun wE huE => ?_) _
   have ⟨hS1, hS2, hS3, hS4, hSB⟩ := hSu.out _ _ hSS huE
   clear huE hSS
   go_wp2_with (first | ((with_reducible apply ld_rowP undW infoW); exact rfl; exact rfl; exact gRow) | ((with_reducible apply st_rowP infoW); exact rfl; exact rfl; exact gRow) | ((with_reducible apply st_rowZ infoW); exact rfl; exact rfl; exact gRow))
   exact bodyPost_ret (res2 rfl undW infoW _ _ rfl gRow) rfl ⟨rfl, gUp⟩
theorem step_arith {x y a b h l r1 c1 r2 c2 : Nat} (hx : x < 18446744073709551616) (hy : y < 18446744073709551616) (ha : a < 18446744073709551616) (hb' : b < 18446744073709551616)
   (eh : h = x * y / 18446744073709551616) (el : l = x * y % 18446744073709551616) (e1 : r1 = (l + a + 0) % 18446744073709551616) (f1 : c1 = (l + a + 0) / 18446744073709551616)
   (e2 : r2 = (r1 + b + 0) % 18446744073709551616) (f2 : c2 = (r1 + b + 0) / 18446744073709551616) :
   h + c1 + c2 < 18446744073709551616 /\ r2 = (x * y + a + b) % 18446744073709551616 /\ h + c1 + c2 = (x * y + a + b) / 18446744073709551616 := by
 have h1 : x * y <= 18446744073709551615 * 18446744073709551615 := Nat.mul_le_mul (by omega) (by omega)
 generalize x * y = p at *
 omega
set_option maxHeartbeats 400000 in
theorem step_any (x y a b : Nat) (hx : x < 18446744073709551616) (hy : y < 18446744073709551616) (ha : a < 18446744073709551616) (hb' : b < 18446744073709551616) (w : World) :
   Calls Tryz.prog 94 #[.int .u64 x, .int .u64 y, .int .u64 a, .int .u64 b] w
    fun e w' => e = .returned (.tuple #[.int .u64 ((x * y + a + b) % 18446744073709551616 : Nat), .int .u64 ((x * y + a + b) / 18446744073709551616 : Nat)]) /\ w' = w := by
 obtain ⟨h, l, HM, eh, el⟩ : ∃ h l : Nat, Hid (∀ w, Calls Tryz.prog 79 #[.int .u64 x, .int .u64 y] w fun e w' => e = .returned (.tuple #[.int .u64 (h : Nat), .int .u64 (l : Nat)]) /\ w' = w) /\
    h = x * y / 18446744073709551616 /\ l = x * y % 18446744073709551616 := ⟨_, _, hid (Tryz.bits_Mul64 x y hx hy), rfl, rfl⟩
 obtain ⟨r1, c1, HA, e1, f1⟩ : ∃ r c : Nat, (∀ w, (callFunc 77 #[.int .u64 (l : Nat), .int .u64 (a : Nat), .int .u64 0]).run Tryz.prog w = .ok (.value (.tuple #[.int .u64 (r : Nat), .int .u64 (c : Nat)])) w) /\
    r = (l + a + 0) % 18446744073709551616 /\ c = (l + a + 0) / 18446744073709551616 := ⟨_, _, run_add l a 0 (by omega), rfl, rfl⟩
 obtain ⟨r2, c2, HA2, e2, f2⟩ : ∃ r c : Nat, (∀ w, (callFunc 77 #[.int .u64 (r1 : Nat), .int .u64 (b : Nat), .int .u64 0]).run Tryz.prog w = .ok (.value (.tuple #[.int .u64 (r : Nat), .int .u64 (c : Nat)])) w) /\
    r = (r1 + b + 0) % 18446744073709551616 /\ c = (r1 + b + 0) / 18446744073709551616 := ⟨_, _, run_add r1 b 0 (by omega), rfl, rfl⟩
 obtain ⟨g1, g2, g3⟩ := step_arith hx hy ha hb' eh el e1 f1 e2 f2
 rw [<- g2, <- g3]
 clear g2 g3 eh el e1 f1 e2 f2
 go_enter Tryz.func94, Tryz.ntmps94
 go_wp2_with (go_at_call 79; refine (HM.out _).mono ?_; rintro e w' ⟨rfl, rfl⟩)
 go_ret2
 exact ⟨rfl, rfl⟩
theorem i64V_yes {z : Int} (h : -9223372036854775808 <= z /\ z < 9223372036854775808) : i64V z = .tuple #[.int .i64 z, .bool true] := by
 unfold i64V
 rw [if_pos h, decide_eq_true h]
theorem i64V_no {z : Int} (h : ¬ (-9223372036854775808 <= z /\ z < 9223372036854775808)) : i64V z = .tuple #[.int .i64 0, .bool false] := by
 unfold i64V
 rw [if_neg h, decide_eq_false h]
theorem fx_size (v : Int) (h1 : -9223372036854775808 <= v) (h2 : v < 9223372036854775808) (w : World) :
   Calls Tryz.prog 81 #[.int .i64 v] w fun e w' => e = .returned (.int .u64 ((v.natAbs : Nat) : Int)) /\ Up w w' := by
 by_cases h : v < 0
 ·have hd : decide (v < 0) = true := decide_eq_true h
  have e : IntKind.u64.wrap (-IntKind.u64.wrap v) = ((v.natAbs : Nat) : Int) := by
   rw [IntKind.wrap_u64, IntKind.wrap_u64]; omega
  go_enter Tryz.func81, Tryz.ntmps81
  go_wp2
  go_ret
  exact ⟨rfl, gUp⟩
 ·have hd : decide (v < 0) = false := decide_eq_false h
  have e : IntKind.u64.wrap v = ((v.natAbs : Nat) : Int) := by
   rw [IntKind.wrap_u64]; omega
  go_enter Tryz.func81, Tryz.ntmps81
  go_wp2
  go_ret
  exact ⟨rfl, gUp⟩
theorem fx_signed (n : Nat) (hn : n < 18446744073709551616) (neg : Bool) (w : World) :
   Calls Tryz.prog 80 #[.int .u64 n, .bool neg] w fun e w' => e = .returned (i64V (pm neg n)) /\ Up w w' := by
 cases neg with
 | false =>
   by_cases h : n < 9223372036854775808
   ·rw [show i64V (pm false n) = .tuple #[.int .i64 n, .bool true] from i64V_yes (by simp only [pm, Bool.false_eq_true, if_false]; omega)]
    have hc : IntKind.i64.wrap (n : Int) = n := IntWalk.i64_in _ (by omega)
    have hd : decide ((n : Int) < 0) = false := decide_eq_false (by omega)
    go_enter Tryz.func80, Tryz.ntmps80
    go_wp2
    go_ret2
    exact ⟨rfl, gUp⟩
   ·rw [show i64V (pm false n) = .tuple #[.int .i64 0, .bool false] from i64V_no (by simp only [pm, Bool.false_eq_true, if_false]; omega)]
    obtain ⟨u, hu⟩ : ∃ u : Int, u = (n : Int) - 18446744073709551616 := ⟨_, rfl⟩
    have hc : IntKind.i64.wrap (n : Int) = u := by rw [IntKind.wrap_i64]; omega
    have hd : decide (u < 0) = true := decide_eq_true (by omega)
    have h0 : ((n : Int) != 0) = true := by simp; omega
    clear hu h hn
    go_enter Tryz.func80, Tryz.ntmps80
    go_wp2
    go_ret2
    exact ⟨rfl, gUp⟩
 | true =>
   by_cases h : n <= 9223372036854775808
   ·rw [show i64V (pm true n) = .tuple #[.int .i64 (-(n : Int)), .bool true] from i64V_yes (by simp only [pm, if_true]; omega)]
    obtain ⟨u, hu⟩ : ∃ u : Int, u = if (n : Int) < 9223372036854775808 then (n : Int) else -9223372036854775808 := ⟨_, rfl⟩
    have hc : IntKind.i64.wrap (n : Int) = u := by rw [IntKind.wrap_i64]; split at hu <;> omega
    obtain ⟨v, hv⟩ : ∃ v : Int, v = -(n : Int) := ⟨_, rfl⟩
    have hc2 : IntKind.i64.wrap (-u) = v := by rw [IntKind.wrap_i64]; split at hu <;> omega
    by_cases h0 : n = 0
    ·have h00 : ((n : Int) != 0) = false := by simp; omega
     have hd : decide (v < 0) = false := decide_eq_false (by omega)
     rw [<- hv]
     clear hu hv h hn h0
     go_enter Tryz.func80, Tryz.ntmps80
     go_wp2
     go_ret2
     exact ⟨rfl, gUp⟩
    ·have hd : decide (v < 0) = true := decide_eq_true (by omega)
     rw [<- hv]
     clear hu hv h hn h0
     go_enter Tryz.func80, Tryz.ntmps80
     go_wp2
     go_ret2
     exact ⟨rfl, gUp⟩
   ·rw [show i64V (pm true n) = .tuple #[.int .i64 0, .bool false] from i64V_no (by simp only [pm, if_true]; omega)]
    obtain ⟨u, hu⟩ : ∃ u : Int, u = (n : Int) - 18446744073709551616 := ⟨_, rfl⟩
    have hc : IntKind.i64.wrap (n : Int) = u := by rw [IntKind.wrap_i64]; omega
    obtain ⟨v, hv⟩ : ∃ v : Int, v = -u := ⟨_, rfl⟩
    have hc2 : IntKind.i64.wrap (-u) = v := by rw [IntKind.wrap_i64]; omega
    have hd : decide (v < 0) = false := decide_eq_false (by omega)
    have h0 : ((n : Int) != 0) = true := by simp; omega
    clear hu hv h hn
    go_enter Tryz.func80, Tryz.ntmps80
    go_wp2
    go_ret2
    exact ⟨rfl, gUp⟩
theorem fx_amount (v : Int) (h1 : -9223372036854775808 <= v) (h2 : v < 9223372036854775808) (w : World) :
   Calls Tryz.prog 63 #[.int .i64 v] w fun e w' => e = .returned (i64V (v.natAbs : Nat)) /\ Up w w' := by
 have HS := hid (fun w => fx_size v h1 h2 w)
 have HG := hid (fun w => fx_signed v.natAbs (by omega) false w)
 rw [show pm false v.natAbs = ((v.natAbs : Nat) : Int) from rfl] at HG
 generalize v.natAbs = n at *
 obtain ⟨x, ok, hx⟩ : ∃ x ok, i64V (n : Int) = .tuple #[.int .i64 x, .bool ok] := ⟨_, _, rfl⟩
 rw [hx] at HG ⊢
 clear hx
 go_enter Tryz.func63, Tryz.ntmps63
 go_wp2_with (first | (go_at_call 81; refine (HS.out _).mono ?_; rintro e w' ⟨rfl, hu⟩) | (go_at_call 80; refine (HG.out _).mono ?_; rintro e w' ⟨rfl, hu⟩))
 go_ret2
 exact ⟨rfl, gUp⟩
inductive Er where
 | num (n : Int)
 | nilf (op : ByteArray)
 | flt (op : ByteArray) (e : Er)
def IsEr (w : World) : Value -> Er -> Prop
 | v, .num n => v = .iface 66 (.int .i64 n)
 | v, .nilf op => ∃ b, v = .iface 92 (.pointer (some ⟨b, 0, none⟩)) /\ Blk w b 95 #[.string op, .nilIface]
 | v, .flt op e => ∃ b u, v = .iface 92 (.pointer (some ⟨b, 0, none⟩)) /\ Blk w b 95 #[.string op, u] /\ IsEr w u e
theorem IsEr.up {w w' : World} (hu : Up w w') {v : Value} {e : Er} (h : IsEr w v e) : IsEr w' v e := by
 induction e generalizing v with
 | num n => exact h
 | nilf op => obtain ⟨b, h1, h2⟩ := h; exact ⟨b, h1, h2.up hu⟩
 | flt op e ih => obtain ⟨b, u, h1, h2, h3⟩ := h; exact ⟨b, u, h1, h2.up hu, ih h3⟩
theorem IsEr.iface {w : World} {v : Value} {e : Er} (h : IsEr w v e) : ∃ t u, v = .iface t u := by
 cases e with
 | num n => exact ⟨_, _, h⟩
 | nilf op => obtain ⟨b, h1, _⟩ := h; exact ⟨_, _, h1⟩
 | flt op e => obtain ⟨b, u, h1, _⟩ := h; exact ⟨_, _, h1⟩
def Er.has (n : Int) : Er -> Bool
 | .num m => m == n
 | .nilf _ => false
 | .flt _ e => e.has n
def Er.first : Er -> Option Int
 | .num m => some m
 | .nilf _ => none
 | .flt _ e => e.first
def Er.ops : Er -> List ByteArray
 | .num _ => []
 | .nilf op => [op]
 | .flt op e => op :: e.ops
theorem wrap_any {op : ByteArray} {v : Value} {e : Er} {w : World} (h : IsEr w v e) :
   Calls Tryz.prog 56 #[.string op, v] w fun r w' => ∃ u, r = .returned u /\ Up w w' /\ IsEr w' u (.flt op e) := by
 obtain ⟨t, u, rfl⟩ := h.iface
 have H := hid h
 clear h
 go_enter Tryz.func56, Tryz.ntmps56
 go_wp2
 go_ret
 exact ⟨_, rfl, Up.alloc _ _, _, _, rfl, Blk.new _ _ rfl, H.out.up (Up.alloc _ _)⟩
end Go.Proofs.YtdpgpchcgmmklaaGreatDoor
namespace Go.Proofs.YtdpgpchcgmmklaaGreatDoor
open Go Go.RowKit Go.Extern.Stop Go.Stop Go.Extern
set_option maxRecDepth 100000
theorem noUnN (v : Value) (xT : TypeId) (w : World) : (Instr.typeAssert (.iface 66 v) xT 146 true).run Tryz.prog w = .ok (.tuple #[.nilIface, .bool false]) w := run_typeAssert_lacksB Tryz.underlying146 (by kernel_rfl) (by kernel_rfl) v xT w
theorem noUsN (v : Value) (xT : TypeId) (w : World) : (Instr.typeAssert (.iface 66 v) xT 132 true).run Tryz.prog w = .ok (.tuple #[.nilIface, .bool false]) w := run_typeAssert_lacksB Tryz.underlying132 (by kernel_rfl) (by kernel_rfl) v xT w
theorem hasUnF (v : Value) (xT : TypeId) (w : World) : (Instr.typeAssert (.iface 92 v) xT 146 true).run Tryz.prog w = .ok (.tuple #[.iface 92 v, .bool true]) w := run_typeAssert_hasB Tryz.underlying146 (by kernel_rfl) v xT w
theorem unwrap_flt {b : Nat} {op : ByteArray} {u : Value} {w : World} (h : Blk w b 95 #[.string op, u]) :
   Calls Tryz.prog 128 #[.pointer (some ⟨b, 0, none⟩)] w fun r w' => r = .returned u /\ w' = w := by
 have hc := h.cell 1 rfl
 go_enter Tryz.func128, Tryz.ntmps128
 go_wp2
 go_ret
 exact ⟨rfl, rfl⟩
theorem mUnF (v : Value) (w : World) : (Go.method 299 92 v "Unwrap").run Tryz.prog w = .ok (128, v) w := by kernel_rfl
def Er.size : Er -> Nat
 | .num _ => 1
 | .nilf _ => 1
 | .flt _ e => e.size + 1
end Go.Proofs.YtdpgpchcgmmklaaGreatDoor
namespace Go.Proofs.YtdpgpchcgmmklaaGreatDoor
open Go Go.RowKit Go.Extern.Stop Go.Stop Go.Extern
set_option maxRecDepth 100000
theorem valueOfP (t : Addr) (w : World) : (ReflectliteValue.unpack (.iface 97 (.pointer (some t)))).run Tryz.prog w
   = .ok (.agg #[.pointer (some ⟨3, 97, none⟩), .pointer (some ⟨w.heap.size, 0, none⟩), .int .u64 150]) (w.alloc (.cells #[.pointer (some t)] 97)) := by kernel_rfl
theorem typeP (a : Addr) (w : World) : (ReflectliteValue.methodAny (ReflectliteValue.valueError "reflectlite.Value.Type" 0) (fun t _ _ _ => ReflectliteType.toType t) #[.agg #[.pointer (some ⟨3, 97, none⟩), .pointer (some a), .int .u64 150]]).run Tryz.prog w
   = .ok (.iface 138 (.agg #[.pointer (some ⟨3, 97, none⟩)])) w := by kernel_rfl
theorem mKind (h : Value) (w : World) : (Go.method 299 138 (.agg #[h]) "Kind").run Tryz.prog w = .ok (123, h) w := by kernel_rfl
theorem kindP (w : World) : ((ReflectliteType.abiMethod fun t => (fun a : Nat => Value.int IntKind.u8 (a : Int)) <$> Rtype.kind t) #[.pointer (some ⟨3, 97, none⟩)]).run Tryz.prog w = .ok (.int .u8 22) w := by kernel_rfl
theorem kindN (w : World) : ((ReflectliteType.abiMethod fun t => (fun a : Nat => Value.int IntKind.u8 (a : Int)) <$> Rtype.kind t) #[.pointer (some ⟨3, 66, none⟩)]).run Tryz.prog w = .ok (.int .u8 2) w := by kernel_rfl
theorem rlm (z : Sem Value) (f : TypeId -> Addr -> Nat -> Nat -> Sem Value) (v : Value) :
   ReflectliteValue.method z f #[v] = (do match <- ReflectliteValue.parts v with | none => z | some (t, a, fl) => f t a fl (fl % 32)) := rfl
theorem partsP (a : Addr) (w : World) : (ReflectliteValue.parts (.agg #[.pointer (some ⟨3, 97, none⟩), .pointer (some a), .int .u64 150])).run Tryz.prog w = .ok (some (97, a, 150)) w := by kernel_rfl
theorem isNilP (a p : Addr) (W : World) (ha : W.cell? a = some (.pointer (some p))) :
   (ReflectliteValue.method (ReflectliteValue.valueError "reflectlite.Value.IsNil" 0) ReflectliteValue.isNil #[.agg #[.pointer (some ⟨3, 97, none⟩), .pointer (some a), .int .u64 150]]).run Tryz.prog W = .ok (.bool false) W := by
 rw [rlm]
 simp only [Sem.run_bind, partsP, Result.andThen]
 simp [ReflectliteValue.isNil, loadVar, isAgg, underlying, Tryz.underlying97, ha, Result.andThen]
theorem mElem (h : Value) (w : World) : (Go.method 299 138 (.agg #[h]) "Elem").run Tryz.prog w = .ok (135, .agg #[h]) w := by kernel_rfl
theorem mImplements (h : Value) (w : World) : (Go.method 299 138 (.agg #[h]) "Implements").run Tryz.prog w = .ok (136, .agg #[h]) w := by kernel_rfl
theorem mAssignableTo (h : Value) (w : World) : (Go.method 299 138 (.agg #[h]) "AssignableTo").run Tryz.prog w = .ok (133, .agg #[h]) w := by kernel_rfl
theorem elemP (w : World) : (ReflectliteType.method ReflectliteType.elem #[.agg #[.pointer (some ⟨3, 97, none⟩)]]).run Tryz.prog w = .ok (.iface 138 (.agg #[.pointer (some ⟨3, 66, none⟩)])) w := by kernel_rfl
theorem implementsN (w : World) : (ReflectliteType.relation "Implements" ReflectliteType.implements_ #[.agg #[.pointer (some ⟨3, 66, none⟩)], .iface 138 (.agg #[.pointer (some ⟨3, 35, none⟩)])]).run Tryz.prog w = .ok (.bool true) w := by kernel_rfl
theorem typeOfN2 (v : Value) (w : World) : (ReflectliteType.typeOf #[.iface 66 v]).run Tryz.prog w = .ok (.iface 138 (.agg #[.pointer (some ⟨3, 66, none⟩)])) w := by kernel_rfl
theorem typeOfF (v : Value) (w : World) : (ReflectliteType.typeOf #[.iface 92 v]).run Tryz.prog w = .ok (.iface 138 (.agg #[.pointer (some ⟨3, 92, none⟩)])) w := by kernel_rfl
theorem assignN (w : World) : (ReflectliteType.relation "AssignableTo" ReflectliteType.assignableTo #[.agg #[.pointer (some ⟨3, 66, none⟩)], .iface 138 (.agg #[.pointer (some ⟨3, 66, none⟩)])]).run Tryz.prog w = .ok (.bool true) w := by kernel_rfl
theorem assignF (w : World) : (ReflectliteType.relation "AssignableTo" ReflectliteType.assignableTo #[.agg #[.pointer (some ⟨3, 92, none⟩)], .iface 138 (.agg #[.pointer (some ⟨3, 66, none⟩)])]).run Tryz.prog w = .ok (.bool false) w := by kernel_rfl
theorem valueOfN (n : Int) (w : World) : (ReflectliteValue.unpack (.iface 66 (.int .i64 n))).run Tryz.prog w
   = .ok (.agg #[.pointer (some ⟨3, 66, none⟩), .pointer (some ⟨w.heap.size, 0, none⟩), .int .u64 130]) (w.alloc (.cells #[.int .i64 n] 66)) := by kernel_rfl
theorem elemOfP (w : World) : (Rtype.elem? 97).run Tryz.prog w = .ok (some 66) w := by kernel_rfl
theorem mkN (p : Addr) (w : World) : (ReflectliteValue.mk 66 p ReflectliteValue.flagAddr).run Tryz.prog w = .ok (.agg #[.pointer (some ⟨3, 66, none⟩), .pointer (some p), .int .u64 386]) w := by kernel_rfl
theorem elemVP (a p : Addr) (W : World) (ha : W.cell? a = some (.pointer (some p))) :
   (ReflectliteValue.method (ReflectliteValue.valueError "reflectlite.Value.Elem" 0) ReflectliteValue.elem #[.agg #[.pointer (some ⟨3, 97, none⟩), .pointer (some a), .int .u64 150]]).run Tryz.prog W
    = .ok (.agg #[.pointer (some ⟨3, 66, none⟩), .pointer (some p), .int .u64 386]) W := by
 rw [rlm]
 simp only [Sem.run_bind, partsP, Result.andThen]
 simp [ReflectliteValue.elem, loadVar, isAgg, underlying, Tryz.underlying97, ha, Result.andThen, elemOfP, mkN]
theorem lt_of_cell {w : World} {a : Addr} {v : Value} (h : w.cell? a = some v) : a.block < w.heap.size := by
 rcases Nat.lt_or_ge a.block w.heap.size with h1 | h1
 ·exact h1
 ·simp [World.cell?, Array.getElem?_eq_none h1] at h
theorem rls (v x : Value) : ReflectliteValue.set #[v, x] = (do
   let (some (dst, a, fl), some (src, b, _)) := (<- ReflectliteValue.parts v, <- ReflectliteValue.parts x)
    | unsupported (.noEntry "extern/(internal/reflectlite.Value).Set.zeroValue")
   if fl / ReflectliteValue.flagAddr % 2 == 0 then unsupported (.noEntry "extern/(internal/reflectlite.Value).Set.unaddressable")
   let val <- loadVar src b
   if <- Rtype.directlyAssignable dst src then storeVar dst a val
   else if <- Rtype.implements dst src then
    if (<- Rtype.kind src) == 20 then
     match val with
     | .nilIface => unsupported (.noEntry "extern/reflectlite: a nil value of one interface type handed on as a value of another")
     | _ => storeVar dst a val
    else storeVar dst a (.iface src val)
   else panicString ("reflectlite.Set: value of type " ++ (<- Rtype.spelt src) ++ " is not assignable to type " ++ (<- Rtype.spelt dst))
   pure (.tuple #[])) := rfl
theorem partsNa (a : Addr) (w : World) : (ReflectliteValue.parts (.agg #[.pointer (some ⟨3, 66, none⟩), .pointer (some a), .int .u64 386])).run Tryz.prog w = .ok (some (66, a, 386)) w := by kernel_rfl
theorem partsN (a : Addr) (w : World) : (ReflectliteValue.parts (.agg #[.pointer (some ⟨3, 66, none⟩), .pointer (some a), .int .u64 130])).run Tryz.prog w = .ok (some (66, a, 130)) w := by kernel_rfl
theorem directN (w : World) : (Rtype.directlyAssignable 66 66).run Tryz.prog w = .ok true w := by kernel_rfl
theorem setN (ta b : Addr) (n : Int) (old : Value) (W : World) (hb : W.cell? b = some (.int .i64 n)) (ht : W.cell? ta = some old) (hf : W.frozen? ta = false) :
   (ReflectliteValue.set #[.agg #[.pointer (some ⟨3, 66, none⟩), .pointer (some ta), .int .u64 386], .agg #[.pointer (some ⟨3, 66, none⟩), .pointer (some b), .int .u64 130]]).run Tryz.prog W
    = .ok (.tuple #[]) (W.setCell ta (.int .i64 n)) := by
 rw [rls]
 simp only [Sem.run_bind, partsNa, partsN, Result.andThen]
 simp [ReflectliteValue.flagAddr, loadVar, isAgg, underlying, Tryz.underlying66, hb, Result.andThen, directN, storeVar, Value.cells, storeCells, Addr.add]
 rw [run_store Tryz.prog W ta _ _ (by rfl)]
 simp [ht, hf]
theorem noAsN (v : Value) (xT : TypeId) (w : World) : (Instr.typeAssert (.iface 66 v) xT 143 true).run Tryz.prog w = .ok (.tuple #[.nilIface, .bool false]) w := run_typeAssert_lacksB Tryz.underlying143 (by kernel_rfl) (by kernel_rfl) v xT w
theorem noAsF (v : Value) (xT : TypeId) (w : World) : (Instr.typeAssert (.iface 92 v) xT 143 true).run Tryz.prog w = .ok (.tuple #[.nilIface, .bool false]) w := run_typeAssert_lacksB Tryz.underlying143 (by kernel_rfl) (by kernel_rfl) v xT w
theorem undV0 : (match Tryz.prog.underlying 114 with | some (.struct _) => true | _ => false) = true := by kernel_rfl
theorem undV : ∃ fs, Tryz.prog.underlying 114 = some (.struct fs) := by
 have h := undV0
 cases hq : Tryz.prog.underlying 114 with
 | none => rw [hq] at h; simp at h
 | some d =>
   rw [hq] at h
   cases d <;> first | exact ⟨_, rfl⟩ | simp at h
theorem infoV : (Tryz.prog.info? 114).map (·.size) = some 3 := by kernel_rfl
theorem ldV {ops : Array Oper} {rest : List Oper} {Q : Exit -> Act -> World -> Prop} {a : Act} {w : World} {d : Option Tmp} {s : Tmp} {ty : TypeId} {pos : String} {af : Array Edge} {gd : Option (Nat × Bool)} {g : Nat} {C : Array Value}
   (hw : Region.wanted { dst := d, op := .load 114 (.tmp s), type := ty, pos := pos, after := af, guard := gd } (yielded ops a.tmps) = true) (hx : a.eval (.tmp s) = .pointer (some ⟨g, 0, none⟩)) (hC : Blk w g 114 C) (h2 : C.size = 3)
   (h : wpList Tryz.prog ops Q rest (a.put d (.agg C)) w) : wpList Tryz.prog ops Q ({ dst := d, op := .load 114 (.tmp s), type := ty, pos := pos, after := af, guard := gd } :: rest) a w := by
 refine wpList_run hw ?_ h
 obtain ⟨fs, hu⟩ := undV
 unfold execOp
 simp only [hx, Instr.loadAt, Instr.sureAddr, Sem.run_bind, Sem.run_pure, Result.andThen_ok, run_loadVar_row w g _ 114 C (0, 0) _ hC hu rfl (by rw [infoV, h2])]
theorem Up.frozen {w w' : World} (hu : Up w w') {a : Addr} (h : a.block < w.heap.size) (hf : w.frozen? a = false) : w'.frozen? a = false := by
 rw [World.frozen?_of_block (hu.block a.block h)]; exact hf
theorem Up.cellEq {w w' : World} (hu : Up w w') {a : Addr} {v : Value} (h : w.cell? a = some v) : w'.cell? a = some v := by
 rw [World.cell?_of_block (hu.block a.block (lt_of_cell h))]; exact h
def Told (t : Addr) (w : World) (r : Ending) (w' : World) : Option Int -> Prop
 | none => r = .returned (.bool false) /\ Up w w'
 | some m => r = .returned (.bool true) /\ ∃ w1, Up w w1 /\ w' = w1.setCell t (.int .i64 m)
set_option maxHeartbeats 8000000 in
theorem as_sz (t p0 : Addr) (old : Value) (k : Nat) : ∀ (e : Er), e.size <= k -> ∀ (v : Value) (w : World), IsEr w v e -> w.cell? p0 = some (.pointer (some t)) -> w.cell? t = some old -> w.frozen? t = false ->
   Calls Tryz.prog 76 #[v, .iface 97 (.pointer (some t)), .agg #[.pointer (some ⟨3, 97, none⟩), .pointer (some p0), .int .u64 150], .iface 138 (.agg #[.pointer (some ⟨3, 66, none⟩)])] w fun r w' => Told t w r w' e.first := by
 induction k with
 | zero => intro e he; cases e <;> simp [Er.size] at he
 | succ k ih =>
   intro e he v w hE hp ht hf
   have h1 := noAsN
   have h2 := noAsF
   have h4 := noUnN
   have h5 := noUsN
   have h6 := hasUnF
   have h9 := mUnF
   have h31 := @run_callFunc_extern Tryz.prog 85 _ ReflectliteType.typeOf Tryz.func85 (by kernel_rfl) (by kernel_rfl) (by kernel_rfl) (by kernel_rfl)
   have h73 := @run_callFunc_extern Tryz.prog 133 _ (ReflectliteType.relation "AssignableTo" ReflectliteType.assignableTo) Tryz.func133 (by kernel_rfl) (by kernel_rfl) (by kernel_rfl) (by kernel_rfl)
   have h35 := @run_callFunc_extern Tryz.prog 86 _ (ReflectliteValue.method (ReflectliteValue.valueError "reflectlite.Value.Elem" 0) ReflectliteValue.elem) Tryz.func86 (by kernel_rfl) (by kernel_rfl) (by kernel_rfl) (by kernel_rfl)
   have h36 := @run_callFunc_extern Tryz.prog 87 _ ReflectliteValue.set Tryz.func87 (by kernel_rfl) (by kernel_rfl) (by kernel_rfl) (by kernel_rfl)
   have h25 := @run_callFunc_extern Tryz.prog 73 _ (fun args => ReflectliteValue.unpack (args.getD 0 (.tuple #[]))) Tryz.func73 (by kernel_rfl) (by kernel_rfl) (by kernel_rfl) (by kernel_rfl)
   have tN := typeOfN2
   have tF := typeOfF
   have aN := assignN
   have aF := assignF
   have mA := mAssignableTo
   have vN := valueOfN
   have IH := hid ih
   have hlp := lt_of_cell hp
   have hlt := lt_of_cell ht
   clear ih
   go_enter Tryz.func76, Tryz.ntmps76
   go_wp2_with fail
   obtain ⟨wb, hwb⟩ : ∃ wb, w.alloc (Obj.cells #[.pointer (some ⟨3, 97, none⟩), .pointer (some p0), .int .u64 150] 114) = wb := ⟨_, rfl⟩
   have hub : Up w wb := by rw [<- hwb]; exact Up.alloc _ _
   have hbox : Blk wb w.heap.size 114 #[.pointer (some ⟨3, 97, none⟩), .pointer (some p0), .int .u64 150] := by rw [<- hwb]; exact Blk.new _ _ rfl
   rw [hwb]
   clear hwb
   go_loopg [0] (k + 1) (fun g tv wr => ∃ x : Er, x.size <= g /\ x.size <= k + 1 /\ x.first = e.first /\ IsEr w tv x /\ wr = wb)
   case atStart => exact ⟨e, he, he, rfl, hE, rfl⟩
   case round =>
    obtain ⟨x, hx1, hx2, hx3, hX, hw0⟩ := hrel
    subst hw0
    have HX3 := hid hx3
    clear hx3 hE he
    cases x with
    | num m =>
      obtain rfl : _ = _ := hX
      have hq := hub.cellEq hp
      have el := elemVP p0 t wr hq
      have st := setN t ⟨wr.heap.size, 0, none⟩ m old (wr.alloc (.cells #[.int .i64 m] 66)) (by simp) ((hub.trans (Up.alloc _ _)).cellEq ht) ((hub.trans (Up.alloc _ _)).frozen hlt hf)
      have HF := hid (show e.first = some m from HX3.out.symm)
      clear hq
      go_wp2_with (first | ((with_reducible apply ldV); exact rfl; exact rfl; exact hbox; exact rfl))
      go_ret
      rw [HF.out]
      exact ⟨rfl, _, hub.trans (Up.alloc _ _), rfl⟩
    | nilf op =>
      obtain ⟨b, rfl, hB⟩ := hX
      have HU := hid (fun (w' : World) (h : Up wr w') => unwrap_flt ((hB.up hub).up h))
      have HF := hid (show e.first = none from HX3.out.symm)
      clear hB
      go_wp2_with (first | (go_at_call 128; (with_reducible refine (HU.out _ (Up.refl _)).mono ?_); rintro r w' ⟨rfl, rfl⟩))
      go_ret
      rw [HF.out]
      exact ⟨rfl, hub⟩
    | flt op y =>
      obtain ⟨b, u, rfl, hB, hY⟩ := hX
      obtain ⟨tu, uu, rfl⟩ := hY.iface
      have HU := hid (fun (w' : World) (h : Up wr w') => unwrap_flt ((hB.up hub).up h))
      have HY := hid hY
      have hs1 : y.size + 1 <= gk := hx1
      have hs2 : y.size + 1 <= k + 1 := hx2
      have HH := hid (show y.first = e.first from HX3.out)
      clear hY hB
      go_wp2_with (first | (go_at_call 128; (with_reducible refine (HU.out _ (Up.refl _)).mono ?_); rintro r w' ⟨rfl, rfl⟩))
      go_roundg (gk - 1)
      case measure => omega
      case rel => exact ⟨y, by omega, by omega, HH.out, HY.out, rfl⟩
end Go.Proofs.YtdpgpchcgmmklaaGreatDoor
namespace Go.Proofs.YtdpgpchcgmmklaaGreatDoor
open Go Go.RowKit
set_option maxRecDepth 100000
theorem idle_out (w : World) : CallsD Tryz.prog 71 #[] .returning w fun e u' w' => e = .returned (.tuple #[]) /\ u' = .returning /\ w' = w := by
 refine callsD_of_wpS Tryz.func71 rfl fun c₀ cs hu => ?_
 apply wpS_region
 simp [wpOpsS, go_sem, recoverD, hu, Tryz.ntmps71, bodyPostS, results, Tryz.results71]
 cases c₀
 simp_all
end Go.Proofs.YtdpgpchcgmmklaaGreatDoor
namespace Go.Proofs.YtdpgpchcgmmklaaGreatDoor
open Go Go.RowKit Go.Extern.Stop Go.Stop Go.Extern
set_option maxRecDepth 100000
def Glob (w : World) : Prop := w.cell? ⟨0, 0, none⟩ = some (.iface 138 (.agg #[.pointer (some ⟨3, 35, none⟩)]))
set_option maxHeartbeats 4000000 in
theorem as_any {e : Er} {v : Value} {w : World} (t : Addr) (old : Value) (h : IsEr w v e) (hg : Glob w) (ht : w.cell? t = some old) (hf : w.frozen? t = false) :
   Calls Tryz.prog 55 #[v, .iface 97 (.pointer (some t))] w fun r w' => Told t w r w' e.first := by
 obtain ⟨t1, v1, rfl⟩ := h.iface
 obtain ⟨o, ho⟩ : ∃ o, e.first = o := ⟨_, rfl⟩
 rw [ho]
 have h25 := @run_callFunc_extern Tryz.prog 73 _ (fun args => ReflectliteValue.unpack (args.getD 0 (.tuple #[]))) Tryz.func73 (by kernel_rfl) (by kernel_rfl) (by kernel_rfl) (by kernel_rfl)
 have h26 := @run_callFunc_extern Tryz.prog 74 _ (ReflectliteValue.methodAny (ReflectliteValue.valueError "reflectlite.Value.Type" 0) (fun t _ _ _ => ReflectliteType.toType t)) Tryz.func74 (by kernel_rfl) (by kernel_rfl) (by kernel_rfl) (by kernel_rfl)
 have h27 := @run_callFunc_extern Tryz.prog 75 _ (ReflectliteValue.method (ReflectliteValue.valueError "reflectlite.Value.IsNil" 0) ReflectliteValue.isNil) Tryz.func75 (by kernel_rfl) (by kernel_rfl) (by kernel_rfl) (by kernel_rfl)
 have h63 := @run_callFunc_extern Tryz.prog 123 _ (ReflectliteType.abiMethod fun t => do pure (.int .u8 (<- Rtype.kind t))) Tryz.func123 (by kernel_rfl) (by kernel_rfl) (by kernel_rfl) (by kernel_rfl)
 have h75 := @run_callFunc_extern Tryz.prog 135 _ (ReflectliteType.method ReflectliteType.elem) Tryz.func135 (by kernel_rfl) (by kernel_rfl) (by kernel_rfl) (by kernel_rfl)
 have h76 := @run_callFunc_extern Tryz.prog 136 _ (ReflectliteType.relation "Implements" ReflectliteType.implements_) Tryz.func136 (by kernel_rfl) (by kernel_rfl) (by kernel_rfl) (by kernel_rfl)
 have f25 := valueOfP
 have f26 := typeP
 have mK := mKind
 have kP := kindP
 have kN := kindN
 have mE := mElem
 have eP := elemP
 have mI := mImplements
 have iN := implementsN
 obtain ⟨w1, hw1⟩ : ∃ w1, (w.alloc (.cells #[.pointer (some t)] 97)).alloc (.cells #[.pointer (some ⟨3, 97, none⟩), .pointer (some ⟨w.heap.size, 0, none⟩), .int .u64 150] 114) = w1 := ⟨_, rfl⟩
 have hu1 : Up w w1 := by rw [<- hw1]; exact (Up.alloc _ _).trans (Up.alloc _ _)
 have hp1 : w1.cell? ⟨w.heap.size, 0, none⟩ = some (.pointer (some t)) := by rw [<- hw1]; simp
 have n27 := isNilP ⟨w.heap.size, 0, none⟩ t w1 hp1
 have hg1 : w1.cell? ⟨0, 0, none⟩ = some (.iface 138 (.agg #[.pointer (some ⟨3, 35, none⟩)])) := hu1.cellEq hg
 have HS := hid (as_sz t ⟨w.heap.size, 0, none⟩ old e.size e (Nat.le_refl _) _ w1 (h.up hu1) hp1 (hu1.cellEq ht) (hu1.frozen (lt_of_cell ht) hf))
 rw [ho] at HS
 rw [<- hw1] at n27 hg1
 have HW := hid hw1
 clear hw1 h hg ht hf hp1 ho
 go_enter Tryz.func55, Tryz.ntmps55
 cases o with
 | none =>
   go_wp2_with fail
   rw [HW.out]
   refine HS.out.mono ?_
   rintro r wF ⟨rfl, hu⟩
   go_wp2_with fail
   go_ret
   exact ⟨rfl, hu1.trans hu⟩
 | some m =>
   go_wp2_with fail
   rw [HW.out]
   refine HS.out.mono ?_
   rintro r wF ⟨rfl, wX, hu, rfl⟩
   go_wp2_with fail
   go_ret
   exact ⟨rfl, wX, hu1.trans hu, rfl⟩
theorem idle_code (p : Addr) (w : World) : CallsD Tryz.prog 54 #[.pointer (some p)] .returning w fun e u' w' => e = .returned (.tuple #[]) /\ u' = .returning /\ w' = w := by
 refine callsD_of_wpS Tryz.func54 rfl fun c₀ cs hu => ?_
 apply wpS_seq
 apply wpS_region
 simp [wpOpsS, go_sem, recoverD, hu, Tryz.ntmps54, Exit.thenS]
 refine wpS_cond (t := false) (by simp [Act.eval, Array.replicate]) ?_
 simp only [Bool.false_eq_true, if_false]
 refine wpS_of_wp (wp_skip ?_)
 cases c₀
 simp_all [bodyPostS, results, Tryz.results54]
theorem code_any {e : Er} {v : Value} {w : World} (h : IsEr w v e) (hg : Glob w) :
   Calls Tryz.prog 33 #[v] w fun r w' => r = .returned (.int .i64 (e.first.getD 36)) /\ Up w w' := by
 obtain ⟨t1, v1, rfl⟩ := h.iface
 have hmf : ∀ (fn : Fn) (first cap : Array Value) (w : World), (Instr.makeFunc fn first cap).run Tryz.prog w = .ok (.func fn first cap) w := fun _ _ _ _ => rfl
 have hu0 : Up w (w.alloc (.cells #[.int .i64 0] 66)) := Up.alloc _ _
 have hB0 : Blk (w.alloc (.cells #[.int .i64 0] 66)) w.heap.size 66 #[.int .i64 0] := Blk.new _ _ rfl
 have HA := hid (as_any ⟨w.heap.size, 0, none⟩ (.int .i64 0) (h.up hu0) (hu0.cellEq hg) (by simp) (by simp))
 obtain ⟨o, ho⟩ : ∃ o, e.first = o := ⟨_, rfl⟩
 rw [ho] at HA ⊢
 clear ho h hg
 cases o with
 | none =>
   go_enter_defers Tryz.func33, Tryz.ntmps33
   go_wp2_with (first | (go_at_call 55; (with_reducible refine (HA.out).mono ?_); rintro r wA ⟨rfl, huA⟩; have hBA := hB0.up huA; have hcA := hBA.cell 0 rfl; have hfA := hBA.frozen 0))
   have hBF := hBA.set 0 (.int .i64 36)
   have hcF := hBF.cell 0 rfl
   have huF := (hu0.trans huA).setCell (p := ⟨w.heap.size, 0, none⟩) (Nat.le_refl _) (.int .i64 36)
   refine leaves_cons (f := 54) (args := #[.pointer (some ⟨w.heap.size, 0, none⟩)]) (by simp) (by simp [go_sem]) ?_
   refine (idle_code _ _).mono ?_
   rintro e u' w'' ⟨rfl, rfl, rfl⟩
   simp [Leaves, settle, results, Tryz.results33, go_sem, hcF]
   exact huF
 | some m =>
   go_enter_defers Tryz.func33, Tryz.ntmps33
   go_wp2_with (first | (go_at_call 55; (with_reducible refine (HA.out).mono ?_); rintro r wA ⟨rfl, wX, huA, rfl⟩; have hBX := (hB0.up huA).set 0 (.int .i64 m); have hcX := hBX.cell 0 rfl; have hfX := hBX.frozen 0))
   have hBF := hBX.set 0 (.int .i64 m)
   have hcF := hBF.cell 0 rfl
   have huF := ((hu0.trans huA).setCell (p := ⟨w.heap.size, 0, none⟩) (Nat.le_refl _) (.int .i64 m)).setCell (p := ⟨w.heap.size, 0, none⟩) (Nat.le_refl _) (.int .i64 m)
   refine leaves_cons (f := 54) (args := #[.pointer (some ⟨w.heap.size, 0, none⟩)]) (by simp) (by simp [go_sem]) ?_
   refine (idle_code _ _).mono ?_
   rintro e u' w'' ⟨rfl, rfl, rfl⟩
   simp [Leaves, settle, results, Tryz.results33, go_sem, hcF]
   exact huF
end Go.Proofs.YtdpgpchcgmmklaaGreatDoor
namespace Go.Proofs.YtdpgpchcgmmklaaGreatDoor
open Go Go.RowKit
set_option maxRecDepth 100000
def zth (l : List Int) (i : Nat) : Int := l.getD i 0
theorem zth_get {l : List Int} {i : Nat} (h : i < l.length) : zth l i = l[i] := by
 unfold zth; rw [List.getD_eq_getElem?_getD, List.getElem?_eq_getElem h]; rfl
def Vw (w : World) (v : Value) (l : List Int) : Prop :=
 ∃ p cap, v = .slice p l.length cap /\ (l.length <= cap /\ (p = none -> cap = 0)) /\ ∀ i, i < l.length -> ∃ a, p = some a /\ w.cell? (a.add i) = some (.int .i64 (zth l i))
theorem Vw.up {w w' : World} (hu : Up w w') {v : Value} {l : List Int} (h : Vw w v l) : Vw w' v l := by
 obtain ⟨p, cap, e, hcap, hc⟩ := h
 refine ⟨p, cap, e, hcap, fun i hi => ?_⟩
 obtain ⟨a, ha, h1⟩ := hc i hi
 exact ⟨a, ha, hu.cellEq h1⟩
def I64 (z : Int) : Prop := -9223372036854775808 <= z /\ z < 9223372036854775808
def In64 (l : List Int) : Prop := ∀ i, i < l.length -> I64 (zth l i)
def Sm (w : World) (v : Value) (N : Int) (l : List Int) : Prop :=
 ∃ s, v = .agg #[.int .i64 N, s] /\ Vw w s l /\ I64 N /\ In64 l /\ l.length <= 1000
theorem Sm.up {w w' : World} (hu : Up w w') {v : Value} {N : Int} {l : List Int} (h : Sm w v N l) : Sm w' v N l := by
 obtain ⟨s, e, h1, h2⟩ := h
 exact ⟨s, e, h1.up hu, h2⟩
def tri (n : Int) : Int := n * (n + 1) / 2
def idx (n i j : Int) : Int := tri n - tri (n - min i j) + max i j - min i j
theorem nine {n : Int} (h0 : 0 <= n) (h8 : n <= 8) : n = 0 \/ n = 1 \/ n = 2 \/ n = 3 \/ n = 4 \/ n = 5 \/ n = 6 \/ n = 7 \/ n = 8 := by omega
theorem tri_le {n : Int} (h0 : 0 <= n) (h8 : n <= 8) : 0 <= tri n /\ tri n <= 36 := by
 rcases nine h0 h8 with rfl | rfl | rfl | rfl | rfl | rfl | rfl | rfl | rfl <;> decide
theorem tri_mul {n : Int} (h0 : 0 <= n) (h8 : n <= 8) : 0 <= n * (n + 1) /\ n * (n + 1) <= 72 := by
 rcases nine h0 h8 with rfl | rfl | rfl | rfl | rfl | rfl | rfl | rfl | rfl <;> decide
theorem entries_any (n : Int) (h0 : 0 <= n) (h8 : n <= 8) (w : World) :
   Calls Tryz.prog 41 #[.int .i64 n] w fun e w' => e = .returned (.int .i64 (tri n)) /\ w' = w := by
 have ⟨m1, m2⟩ := tri_mul h0 h8
 obtain ⟨p, hp⟩ : ∃ p, n * (n + 1) = p := ⟨_, rfl⟩
 have ht : tri n = p / 2 := by unfold tri; rw [hp]
 rw [ht]
 have hm : IntKind.i64.wrap (n * (n + 1)) = p := by rw [hp]; rw [hp] at m1 m2; exact IntWalk.i64_in _ (by omega)
 rw [hp] at m1 m2
 clear ht hp
 go_enter Tryz.func41, Tryz.ntmps41
 go_wp2
 go_ret
 exact ⟨rfl, rfl⟩
theorem hasrow_any {v : Value} {N : Int} {l : List Int} (i : Int) {w : World} (h : Sm w v N l) :
   Calls Tryz.prog 68 #[v, .int .i64 i] w fun e w' => e = .returned (.bool (decide (0 <= i /\ i < N))) /\ Up w w' := by
 obtain ⟨s, rfl, _, _⟩ := h
 by_cases h1 : 0 <= i
 ·by_cases h2 : i < N
  ·rw [show decide (0 <= i /\ i < N) = true from decide_eq_true ⟨h1, h2⟩]
   go_enter Tryz.func68, Tryz.ntmps68
   go_wp2
   go_ret
   exact ⟨rfl, Up.alloc _ _⟩
  ·rw [show decide (0 <= i /\ i < N) = false from decide_eq_false (by omega)]
   go_enter Tryz.func68, Tryz.ntmps68
   go_wp2
   go_ret
   exact ⟨rfl, Up.alloc _ _⟩
 ·rw [show decide (0 <= i /\ i < N) = false from decide_eq_false (by omega)]
  go_enter Tryz.func68, Tryz.ntmps68
  go_wp2
  go_ret
  exact ⟨rfl, Up.alloc _ _⟩
def fit (v : Int) : Bool := decide (-1073741824 <= v /\ v <= 1073741824)
theorem fits_any (v : Int) (h : I64 v) (w : World) :
   Calls Tryz.prog 42 #[.int .i64 v] w fun e w' => e = .returned (.bool (fit v)) /\ Up w w' := by
 have HA := hid (fx_amount v h.1 h.2)
 unfold I64 at h
 by_cases h1 : v.natAbs < 9223372036854775808
 ·have HA := hid (fun w => fx_amount v h.1 h.2 w)
  rw [i64V_yes (by omega)] at HA
  by_cases h2 : v.natAbs <= 1073741824
  ·rw [show fit v = true from decide_eq_true (by omega)]
   have d : decide (((v.natAbs : Nat) : Int) <= 1073741824) = true := decide_eq_true (by omega)
   clear h
   generalize v.natAbs = n at *
   go_enter Tryz.func42, Tryz.ntmps42
   go_wp2_with (first | (go_at_call 63; refine (HA.out _).mono ?_; rintro e w' ⟨rfl, hu⟩))
   go_ret
   exact ⟨rfl, gUp⟩
  ·rw [show fit v = false from decide_eq_false (by omega)]
   have d : decide (((v.natAbs : Nat) : Int) <= 1073741824) = false := decide_eq_false (by omega)
   clear h
   generalize v.natAbs = n at *
   go_enter Tryz.func42, Tryz.ntmps42
   go_wp2_with (first | (go_at_call 63; refine (HA.out _).mono ?_; rintro e w' ⟨rfl, hu⟩))
   go_ret
   exact ⟨rfl, gUp⟩
 ·have HA := hid (fun w => fx_amount v h.1 h.2 w)
  rw [i64V_no (by omega)] at HA
  rw [show fit v = false from decide_eq_false (by omega)]
  clear h h1
  go_enter Tryz.func42, Tryz.ntmps42
  go_wp2_with (first | (go_at_call 63; refine (HA.out _).mono ?_; rintro e w' ⟨rfl, hu⟩))
  go_ret
  exact ⟨rfl, gUp⟩
def rt (N : Int) (l : List Int) : Bool := decide (0 <= N /\ N <= 8 /\ (l.length : Int) = tri N) && l.all fit
theorem rt_no {N : Int} {l : List Int} (h : ¬ (0 <= N /\ N <= 8 /\ (l.length : Int) = tri N)) : rt N l = false := by unfold rt; rw [decide_eq_false h]; rfl
theorem rt_yes {N : Int} {l : List Int} (h : 0 <= N /\ N <= 8 /\ (l.length : Int) = tri N) : rt N l = l.all fit := by unfold rt; rw [decide_eq_true h]; rfl
theorem all_no {l : List Int} {k : Nat} (hk : k < l.length) (h : fit (zth l k) = false) : l.all fit = false := by
 rw [zth_get hk] at h
 rw [List.all_eq_false]
 exact ⟨l[k], List.getElem_mem hk, by rw [h]; decide⟩
theorem all_yes {l : List Int} (h : ∀ k, k < l.length -> fit (zth l k) = true) : l.all fit = true := by
 rw [List.all_eq_true]
 intro x hx
 obtain ⟨k, hk, rfl⟩ := List.getElem_of_mem hx
 rw [<- zth_get hk]
 exact h k hk
theorem up_alloc_drewN (w : World) (o : Obj) (n : Nat) : Up w ((w.alloc o).drewN n) := below_drewN (Up.alloc w o) n
set_option maxHeartbeats 2000000 in
theorem sright_any {v : Value} {N : Int} {l : List Int} {w : World} (h : Sm w v N l) :
   Calls Tryz.prog 22 #[v] w fun e w' => e = .returned (.bool (rt N l)) /\ Up w w' := by
 obtain ⟨s, rfl, ⟨p, cap, rfl, hcap, hc⟩, hN, hl, hlen⟩ := h
 unfold I64 at hN
 by_cases hb : 0 <= N /\ N <= 8
 ·obtain ⟨b1, b2⟩ := hb
  have d1 : decide (N < 0) = false := decide_eq_false (by omega)
  have d2 : decide (8 < N) = false := decide_eq_false (by omega)
  have HE := hid (fun w => entries_any N b1 b2 w)
  by_cases hT : (l.length : Int) = tri N
  ·have hR := rt_yes ⟨b1, b2, hT⟩
   have d3 : ((l.length : Int) != tri N) = false := by rw [hT]; simp
   generalize tri N = T at *
   have HL := hid hl
   have HC := hid (fun w' (hu : Up w w') (i : Nat) (hi : i < l.length) => (show ∃ a, p = some a /\ w'.cell? (a.add i) = some (.int .i64 (zth l i)) from by obtain ⟨a, h1, h2⟩ := hc i hi; exact ⟨a, h1, hu.cellEq h2⟩))
   rw [hR]
   obtain ⟨n, hn⟩ : ∃ n, l.length = n := ⟨_, rfl⟩
   have HN := hid hn
   rw [hn] at d3 HC hlen ⊢
   clear hR hl hc hT hcap hn
   go_enter Tryz.func22, Tryz.ntmps22
   go_wp2_with fail
   go_quiet ((go_at_call 41; exact Calls.quiet_of_same (HE.out _)))
   go_wp2_with fail
   go_loopg [25] n (fun g ti wr => ∃ k : Nat, k <= n /\ n - k <= g /\ ti = .int .i64 (k : Nat) /\ Up w wr /\ Hid (∀ j, j < k -> fit (zth l j) = true))
   case atStart => exact ⟨0, Nat.zero_le _, Nat.le_refl _, rfl, up_alloc_drewN _ _ _, hid (fun j hj => absurd hj (Nat.not_lt_zero _))⟩
   case round =>
    clear d1 d2 d3
    obtain ⟨k, hk, hkg, rfl, hu, HA⟩ := hrel
    by_cases hlt : k < n
    ·have e1 : IntKind.i64.wrap ((k : Int) + 1) = (k : Int) + 1 := IntWalk.i64_in _ (by omega)
     obtain ⟨a, rfl, hcell⟩ := HC.out _ hu k hlt
     have HF := hid (fun w => fits_any (zth l k) (HL.out k (by rw [HN.out]; exact hlt)) w)
     cases hf : fit (zth l k) with
     | true =>
       rw [hf] at HF
       have Hf := hid hf
       clear hf
       go_wp2_with (first | (go_at_call 42; refine (HF.out _).mono ?_; rintro e w' ⟨rfl, hu9⟩))
       go_roundg (n - (k + 1))
       case measure => omega
       case rel => exact ⟨k + 1, by omega, Nat.le_refl _, rfl, hu.trans hu9, hid (fun j hj => by rcases Nat.lt_succ_iff_lt_or_eq.1 hj with h | h; exact HA.out j h; rw [h]; exact Hf.out)⟩
     | false =>
       rw [hf] at HF
       have Hf := hid hf
       clear hf
       go_wp2_with (first | (go_at_call 42; refine (HF.out _).mono ?_; rintro e w' ⟨rfl, hu9⟩))
       go_ret
       exact ⟨by rw [all_no (by rw [HN.out]; exact hlt) Hf.out]; rfl, hu.trans hu9⟩
    ·obtain rfl : k = n := by omega
     have HX := hid (all_yes (by rw [HN.out]; exact HA.out))
     clear hlt hk
     go_wp2_with fail
     go_ret
     exact ⟨by rw [HX.out]; rfl, hu⟩
  ·rw [rt_no (fun h => hT h.2.2)]
   have d3 : ((l.length : Int) != tri N) = true := by simpa using hT
   generalize tri N = T at *
   clear hT hl hc
   go_enter Tryz.func22, Tryz.ntmps22
   go_wp2_with fail
   go_quiet ((go_at_call 41; exact Calls.quiet_of_same (HE.out _)))
   go_wp2_with fail
   go_ret
   exact ⟨rfl, up_alloc_drewN _ _ _⟩
 ·rw [rt_no (fun h => hb ⟨h.1, h.2.1⟩)]
  by_cases h0 : N < 0
  ·have d1 : decide (N < 0) = true := decide_eq_true h0
   clear hb hl hc
   go_enter Tryz.func22, Tryz.ntmps22
   go_wp2_with fail
   go_quiet (fail)
   go_wp2_with fail
   go_ret
   exact ⟨rfl, up_alloc_drewN _ _ _⟩
  ·have d1 : decide (N < 0) = false := decide_eq_false h0
   have d2 : decide (8 < N) = true := decide_eq_true (by omega)
   clear hb hl hc
   go_enter Tryz.func22, Tryz.ntmps22
   go_wp2_with fail
   go_quiet (fail)
   go_wp2_with fail
   go_ret
   exact ⟨rfl, up_alloc_drewN _ _ _⟩
theorem noSevN (v : Value) (xT : TypeId) (w : World) : (Instr.typeAssert (.iface 66 v) xT 133 true).run Tryz.prog w = .ok (.tuple #[.nilIface, .bool false]) w := run_typeAssert_lacksB Tryz.underlying133 (by kernel_rfl) (by kernel_rfl) v xT w
theorem isF (v : Value) (w : World) : (Instr.typeAssert (.iface 92 v) 35 92 true).run Tryz.prog w = .ok (.tuple #[v, .bool true]) w := by kernel_rfl
theorem notFN (v : Value) (w : World) : (Instr.typeAssert (.iface 66 v) 35 92 true).run Tryz.prog w = .ok (.tuple #[.pointer none, .bool false]) w := by kernel_rfl
theorem first_num (n : Int) (w : World) : Calls Tryz.prog 72 #[.iface 66 (.int .i64 n)] w fun r w' => r = .returned .nilIface /\ w' = w := by
 have h1 := noSevN
 go_enter Tryz.func72, Tryz.ntmps72
 go_wp2
 go_ret
 exact ⟨rfl, rfl⟩
def Out (w : World) (p : Value) : List ByteArray -> Prop
 | [] => p = .pointer none
 | op :: l => ∃ b u, p = .pointer (some ⟨b, 0, none⟩) /\ Blk w b 95 #[.string op, u] /\ ((u = .nilIface /\ l = []) \/ ∃ e, IsEr w u e /\ e.ops = l)
set_option maxHeartbeats 4000000 in
theorem out_any {e : Er} {v : Value} {w0 w : World} (h : IsEr w0 v e) (_hu0 : Up w0 w) :
   Calls Tryz.prog 53 #[v] w fun r w' => ∃ p, r = .returned p /\ Up w w' /\ Out w0 p e.ops := by
 obtain ⟨l, hl⟩ : ∃ l, e.ops = l := ⟨_, rfl⟩
 have HL := hid hl
 rw [hl]
 clear hl
 go_enter_defers Tryz.func53, Tryz.ntmps53
 go_wp2_with fail
 go_loopg [0] (e.size + 1) (fun g tv wr => ((tv = .nilIface /\ l = []) \/ (∃ t u x, tv = .iface t u /\ Er.size x + 1 <= g /\ x.ops = l /\ IsEr w0 (.iface t u) x)) /\ Up w wr)
 case atStart =>
  obtain ⟨t, u, rfl⟩ := h.iface
  exact ⟨.inr ⟨t, u, e, rfl, Nat.le_refl _, HL.out, h⟩, Up.refl _⟩
 case round =>
  clear HL h
  obtain ⟨h1 | ⟨t, u, x, rfl, hx, hxl, hX⟩, hu⟩ := hrel
  ·obtain ⟨rfl, rfl⟩ := h1
   go_wp2_with fail
   refine leaves_cons (f := 71) (args := #[]) (by simp) (by simp [go_sem]) ?_
   refine (idle_out _).mono ?_
   rintro e u' w'' ⟨rfl, rfl, rfl⟩
   exact ⟨_, results_tmp rfl _ _ _, _, rfl, hu, (by simp [Out])⟩
  ·have hF := isF
   have hN := notFN
   cases x with
   | num n =>
     obtain ⟨rfl, rfl⟩ : t = _ /\ u = _ := by simpa [IsEr] using hX
     have hnil : [] = l := hxl
     subst hnil
     go_wp2_with (first | (go_at_call 72; (with_reducible refine (first_num _ _).mono ?_); rintro r w' ⟨rfl, rfl⟩))
     go_roundg 0
     case measure => omega
     case rel => exact ⟨.inl (by simp), hu⟩
   | nilf op =>
     obtain ⟨b, hv, hB⟩ := hX
     obtain ⟨rfl, rfl⟩ : t = _ /\ u = _ := by simpa using hv
     have hl : [op] = l := hxl
     have HL := hid hl
     clear hl hxl hv
     go_wp2_with fail
     refine leaves_cons (f := 71) (args := #[]) (by simp) (by simp [go_sem]) ?_
     refine (idle_out _).mono ?_
     rintro e u' w'' ⟨rfl, rfl, rfl⟩
     exact ⟨_, results_tmp rfl _ _ _, _, rfl, hu, HL.out ▸ ⟨b, .nilIface, rfl, hB, .inl ⟨rfl, rfl⟩⟩⟩
   | flt op y =>
     obtain ⟨b, uu, hv, hB, hY⟩ := hX
     obtain ⟨rfl, rfl⟩ : t = _ /\ u = _ := by simpa using hv
     have hl : op :: y.ops = l := hxl
     have HL := hid hl
     have HY := hid hY
     clear hl hxl hv hY
     go_wp2_with fail
     refine leaves_cons (f := 71) (args := #[]) (by simp) (by simp [go_sem]) ?_
     refine (idle_out _).mono ?_
     rintro e u' w'' ⟨rfl, rfl, rfl⟩
     exact ⟨_, results_tmp rfl _ _ _, _, rfl, hu, HL.out ▸ ⟨b, uu, rfl, hB, .inr ⟨y, HY.out, rfl⟩⟩⟩
theorem out_nil (w : World) :
   Calls Tryz.prog 53 #[.nilIface] w fun r w' => r = .returned (.pointer none) /\ Up w w' := by
 go_enter_defers Tryz.func53, Tryz.ntmps53
 go_wp2_with fail
 refine wp_loop_rounds 1 ?_
 rw [rounds_succ]
 go_wp2_with fail
 refine leaves_cons (f := 71) (args := #[]) (by simp) (by simp [go_sem]) ?_
 refine (idle_out _).mono ?_
 rintro e u' w'' ⟨rfl, rfl, rfl⟩
 exact ⟨_, results_tmp rfl _ _ _, rfl, Up.refl _⟩
end Go.Proofs.YtdpgpchcgmmklaaGreatDoor
