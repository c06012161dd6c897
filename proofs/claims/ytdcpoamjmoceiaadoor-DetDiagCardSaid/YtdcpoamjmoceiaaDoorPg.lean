/-
  What the claim's law is built of: Det, Sy17, Sy18, Sy19, Sy20, Sy21, Sy22, El4, We3, El5, El6, El7, El8, El9, Sy12, Sy13, Sy14, Sy15, Sy25, Ed1, RefJ, RefK, RefL.
-/
import Derived.Test.YtdcpoamjmoceiaaDoorPf
import Derived.Lib.AppendZeros
import Derived.Lib.AppendZerosOnto
import Derived.OwnWalk
import Derived.Laws.CopyOwn
/-
  Determinants of whole numbers: by their first column; rows; Chio's step; elimination without fractions; what is definite.
-/
namespace Go.Proofs.YtdcpoamjmoceiaaDoor

def sk (i r : Nat) : Nat := if r < i then r else r + 1
def sg (i : Nat) : Int := if i % 2 = 0 then 1 else -1
def sumN : Nat → (Nat → Int) → Int
  | 0, _ => 0
  | n + 1, f => sumN n f + f n
def det : Nat → (Nat → Nat → Int) → Int
  | 0, _ => 1
  | n + 1, A => sumN (n + 1) fun i => sg i * A i 0 * det n fun r c => A (sk i r) (c + 1)

theorem sumN_congr {n : Nat} {f g : Nat → Int} (h : ∀ i, i < n → f i = g i) : sumN n f = sumN n g := by
  induction n with
  | zero => rfl
  | succ n ih => unfold sumN; rw [ih fun i hi => h i (by omega), h n (by omega)]
theorem sumN_lin {n : Nat} {f g k : Nat → Int} {x y : Int} (h : ∀ i, i < n → f i = x * g i + y * k i) : sumN n f = x * sumN n g + y * sumN n k := by
  induction n with
  | zero => simp [sumN]
  | succ n ih => unfold sumN; rw [ih fun i hi => h i (by omega), h n (by omega)]; grind
theorem sumN_zero {n : Nat} {f : Nat → Int} (h : ∀ i, i < n → f i = 0) : sumN n f = 0 := by
  induction n with
  | zero => rfl
  | succ n ih => unfold sumN; rw [ih fun i hi => h i (by omega), h n (by omega)]; rfl
theorem sumN_one {n p : Nat} {f : Nat → Int} (hp : p < n) (h : ∀ i, i < n → i ≠ p → f i = 0) : sumN n f = f p := by
  induction n with
  | zero => omega
  | succ n ih =>
    unfold sumN
    by_cases e : p = n
    · subst e; rw [sumN_zero fun i hi => h i (by omega) (by omega)]; omega
    · rw [ih (by omega) fun i hi => h i (by omega), h n (by omega) (by omega)]; omega
theorem sumN_two {n p : Nat} {f : Nat → Int} (hp : p + 1 < n) (h : ∀ i, i < n → i ≠ p → i ≠ p + 1 → f i = 0) (h2 : f p + f (p + 1) = 0) : sumN n f = 0 := by
  induction n with
  | zero => omega
  | succ n ih =>
    unfold sumN
    by_cases e : p + 1 = n
    · rw [← e, sumN_one (f := f) (p := p) (n := p + 1) (by omega) fun i hi h1 => h i (by omega) h1 (by omega)]; exact h2
    · rw [ih (by omega) fun i hi => h i (by omega), h n (by omega) (by omega) (by omega)]; rfl
theorem sumN_head {n : Nat} {f : Nat → Int} : sumN (n + 1) f = f 0 + sumN n fun i => f (i + 1) := by
  induction n with
  | zero => simp [sumN]
  | succ n ih => rw [show sumN (n + 1 + 1) f = sumN (n + 1) f + f (n + 1) from rfl, ih]; show _ = f 0 + (sumN n _ + f (n + 1)); omega
theorem sk_lt {n i r : Nat} (hr : r < n) : sk i r < n + 1 := by unfold sk; split <;> omega
theorem sk_ne (i r : Nat) : sk i r ≠ i := by unfold sk; split <;> omega
theorem det_congr {n : Nat} {A B : Nat → Nat → Int} (h : ∀ i j, i < n → j < n → A i j = B i j) : det n A = det n B := by
  induction n generalizing A B with
  | zero => rfl
  | succ n ih =>
    unfold det
    exact sumN_congr fun i hi => by rw [h i 0 hi (by omega), ih fun r c hr hc => h _ _ (sk_lt hr) (by omega)]

/-- With u in the place of row p. -/
def updR (A : Nat → Nat → Int) (p : Nat) (u : Nat → Int) : Nat → Nat → Int := fun r c => if r = p then u c else A r c
theorem updR_minor {A : Nat → Nat → Int} {p i : Nat} {u : Nat → Int} (h : i ≠ p) :
    (fun r c => updR A p u (sk i r) (c + 1)) = updR (fun r c => A (sk i r) (c + 1)) (if p < i then p else p - 1) fun c => u (c + 1) := by
  funext r c
  unfold updR
  have : sk i r = p ↔ r = (if p < i then p else p - 1) := by unfold sk; split <;> split <;> omega
  by_cases e : sk i r = p
  · rw [if_pos e, if_pos (this.1 e)]
  · rw [if_neg e, if_neg (fun x => e (this.2 x))]
theorem updR_own {A : Nat → Nat → Int} {p : Nat} {u : Nat → Int} :
    (fun r c => updR A p u (sk p r) (c + 1)) = fun r c => A (sk p r) (c + 1) := by
  funext r c
  unfold updR
  rw [if_neg (sk_ne p r)]
/-- A row is linear. -/
theorem det_lin {n p : Nat} (hp : p < n) (A : Nat → Nat → Int) (x y : Int) (u v : Nat → Int) :
    det n (updR A p fun c => x * u c + y * v c) = x * det n (updR A p u) + y * det n (updR A p v) := by
  induction n generalizing A p u v with
  | zero => omega
  | succ n ih =>
    unfold det
    refine sumN_lin fun i hi => ?_
    by_cases e : i = p
    · subst e
      rw [updR_own, updR_own, updR_own]
      unfold updR
      simp only [if_true]
      grind
    · rw [updR_minor e, updR_minor e, updR_minor e, ih (p := if p < i then p else p - 1) (by split <;> omega)]
      unfold updR
      rw [if_neg e, if_neg e, if_neg e]
      grind
/-- Two rows that are the same, one next to the other. -/
theorem det_next {n p : Nat} (hp : p + 1 < n) {A : Nat → Nat → Int} (h : ∀ c, A p c = A (p + 1) c) : det n A = 0 := by
  induction n generalizing A p with
  | zero => omega
  | succ n ih =>
    unfold det
    refine sumN_two hp (fun i hi h1 h2 => ?_) ?_
    · by_cases e : i < p
      · rw [ih (p := p - 1) (by omega) (fun c => by
          rw [show sk i (p - 1) = p from by unfold sk; split <;> omega, show sk i (p - 1 + 1) = p + 1 from by unfold sk; split <;> omega]; exact h _)]
        grind
      · rw [ih (p := p) (by omega) (fun c => by
          rw [show sk i p = p from by unfold sk; split <;> omega, show sk i (p + 1) = p + 1 from by unfold sk; split <;> omega]; exact h _)]
        grind
    · have e : (fun r c => A (sk p r) (c + 1)) = fun r c => A (sk (p + 1) r) (c + 1) := by
        funext r c
        by_cases e : r = p
        · rw [show sk p r = p + 1 from by unfold sk; split <;> omega, show sk (p + 1) r = p from by unfold sk; split <;> omega, h]
        · rw [show sk p r = sk (p + 1) r from by unfold sk; split <;> split <;> omega]
      rw [e, h 0]
      have e2 : sg (p + 1) = - sg p := by unfold sg; split <;> split <;> omega
      rw [e2]
      grind
theorem updR_comm {A : Nat → Nat → Int} {p q : Nat} (h : p ≠ q) (u v : Nat → Int) : updR (updR A p u) q v = updR (updR A q v) p u := by
  funext r c
  unfold updR
  split <;> split <;> first | rfl | omega
theorem updR_self (A : Nat → Nat → Int) (p : Nat) : updR A p (A p) = A := by
  funext r c
  unfold updR
  split <;> simp_all
theorem updR_at (A : Nat → Nat → Int) (p : Nat) (u : Nat → Int) : updR A p u p = u := by
  funext c
  unfold updR
  simp
theorem updR_off {A : Nat → Nat → Int} {p r : Nat} (u : Nat → Int) (h : r ≠ p) : updR A p u r = A r := by
  funext c
  unfold updR
  simp [h]
/-- If two rows that are the same make nought, two that are exchanged make the other sign. -/
theorem swap_of {n p q : Nat} (hp : p < n) (hq : q < n) (hpq : p ≠ q)
    (h0 : ∀ A : Nat → Nat → Int, (∀ c, A p c = A q c) → det n A = 0) (A : Nat → Nat → Int) :
    det n (updR (updR A p (A q)) q (A p)) = - det n A := by
  have key : ∀ u v : Nat → Int, det n (updR (updR A p u) q v) + det n (updR (updR A p v) q u) = 0 := fun u v => by
    have z1 := h0 (updR (updR A p fun c => 1 * u c + 1 * v c) q fun c => 1 * u c + 1 * v c) (fun c => by rw [updR_off _ hpq, updR_at, updR_at])
    have z2 := h0 (updR (updR A p u) q u) (fun c => by rw [updR_off _ hpq, updR_at, updR_at])
    have z3 := h0 (updR (updR A p v) q v) (fun c => by rw [updR_off _ hpq, updR_at, updR_at])
    rw [det_lin hq, updR_comm hpq, det_lin hp, updR_comm hpq, det_lin hp, updR_comm (Ne.symm hpq), updR_comm (Ne.symm hpq), updR_comm (Ne.symm hpq), updR_comm (Ne.symm hpq)] at z1
    omega
  have := key (A p) (A q)
  rw [updR_self] at this
  rw [show updR A q (A q) = A from updR_self A q] at this
  omega
theorem det_same {n p q : Nat} (hpq : p < q) (hq : q < n) {A : Nat → Nat → Int} (h : ∀ c, A p c = A q c) : det n A = 0 := by
  obtain ⟨d, rfl⟩ : ∃ d, q = p + 1 + d := ⟨q - p - 1, by omega⟩
  induction d generalizing A with
  | zero => exact det_next hq h
  | succ d ih =>
    have hs := swap_of (n := n) (p := p + 1 + d) (q := p + 1 + d + 1) (by omega) (by omega) (by omega) (fun A hA => det_next (by omega) hA) A
    have hz := ih (A := updR (updR A (p + 1 + d) (A (p + 1 + d + 1))) (p + 1 + d + 1) (A (p + 1 + d))) (by omega) (by omega) (fun c => by
      rw [updR_off _ (by omega), updR_off _ (by omega), updR_off _ (by omega), updR_at]; exact h c)
    omega
theorem det_twice {n p q : Nat} (hpq : p ≠ q) (hp : p < n) (hq : q < n) {A : Nat → Nat → Int} (h : ∀ c, A p c = A q c) : det n A = 0 := by
  by_cases e : p < q
  · exact det_same e hq h
  · exact det_same (show q < p by omega) hp fun c => (h c).symm
/-- A row so many times, and another one's so many times. -/
theorem det_row {n p q : Nat} (hp : p < n) (hq : q < n) (hpq : p ≠ q) (A : Nat → Nat → Int) (x y : Int) :
    det n (updR A p fun c => x * A p c + y * A q c) = x * det n A := by
  rw [det_lin hp, updR_self, det_twice hpq hp hq (A := updR A p (A q)) (fun c => by rw [updR_at, updR_off _ (Ne.symm hpq)])]
  omega
/-- Rows 1 to k with their first number gone. -/
def gone (k : Nat) (A : Nat → Nat → Int) : Nat → Nat → Int := fun r c => if 0 < r ∧ r ≤ k then A 0 0 * A r c - A r 0 * A 0 c else A r c
theorem det_gone {n : Nat} (A : Nat → Nat → Int) : ∀ k, k ≤ n → det (n + 1) (gone k A) = A 0 0 ^ k * det (n + 1) A := by
  intro k
  induction k with
  | zero => intro _; rw [show gone 0 A = A from by funext r c; unfold gone; rw [if_neg (by omega)]]; simp
  | succ k ih =>
    intro hk
    have e : gone (k + 1) A = updR (gone k A) (k + 1) fun c => A 0 0 * gone k A (k + 1) c + (- A (k + 1) 0) * gone k A 0 c := by
      funext r c
      unfold updR
      by_cases e : r = k + 1
      · subst e
        rw [if_pos rfl]
        have z1 : gone (k + 1) A (k + 1) c = A 0 0 * A (k + 1) c - A (k + 1) 0 * A 0 c := by unfold gone; rw [if_pos (by omega)]
        have z2 : gone k A (k + 1) c = A (k + 1) c := by unfold gone; rw [if_neg (by omega)]
        have z3 : gone k A 0 c = A 0 c := by unfold gone; rw [if_neg (by omega)]
        show _ = A 0 0 * gone k A (k + 1) c + (- A (k + 1) 0) * gone k A 0 c
        rw [z1, z2, z3]
        grind
      · rw [if_neg e]
        unfold gone
        by_cases e2 : 0 < r ∧ r ≤ k
        · rw [if_pos e2, if_pos (by omega)]
        · rw [if_neg e2, if_neg (by omega)]
    rw [e, det_row (by omega) (by omega) (by omega), ih (by omega), Int.pow_succ]
    grind
/-- What is left when the first row is taken off the others. -/
def chio (A : Nat → Nat → Int) : Nat → Nat → Int := fun i j => A 0 0 * A (i + 1) (j + 1) - A (i + 1) 0 * A 0 (j + 1)
theorem det_chio (n : Nat) (A : Nat → Nat → Int) : A 0 0 ^ n * det (n + 1) A = A 0 0 * det n (chio A) := by
  rw [← det_gone A n (Nat.le_refl n)]
  have h : det (n + 1) (gone n A) = sumN (n + 1) fun i => sg i * gone n A i 0 * det n fun r c => gone n A (sk i r) (c + 1) := rfl
  rw [h, sumN_one (p := 0) (by omega) (fun i hi h0 => by
    rw [show gone n A i 0 = 0 from by unfold gone; rw [if_pos (by omega)]; grind]; simp)]
  have e : det n (fun r c => gone n A (sk 0 r) (c + 1)) = det n (chio A) := det_congr fun r c hr hc => by
    rw [show sk 0 r = r + 1 from rfl]; unfold gone chio; rw [if_pos (by omega)]
  rw [e, show gone n A 0 0 = A 0 0 from by unfold gone; rw [if_neg (by omega)], show sg 0 = 1 from rfl, Int.one_mul]
/-- A first column of noughts. -/
theorem det_nil {n : Nat} {A : Nat → Nat → Int} (h : ∀ i, i < n + 1 → A i 0 = 0) : det (n + 1) A = 0 :=
  sumN_zero fun i hi => by rw [h i hi]; simp
theorem sumN_abs {n : Nat} {f : Nat → Int} {b : Nat} (h : ∀ i, i < n → (f i).natAbs ≤ b) : (sumN n f).natAbs ≤ n * b := by
  induction n with
  | zero => simp [sumN]
  | succ n ih =>
    have h1 := ih fun i hi => h i (by omega)
    have h2 := h n (by omega)
    have h3 := Int.natAbs_add_le (sumN n f) (f n)
    show (sumN n f + f n).natAbs ≤ _
    rw [Nat.succ_mul]
    omega
def fct : Nat → Nat
  | 0 => 1
  | n + 1 => (n + 1) * fct n
theorem det_abs {n m : Nat} {A : Nat → Nat → Int} (h : ∀ i j, i < n → j < n → (A i j).natAbs ≤ m) : (det n A).natAbs ≤ fct n * m ^ n := by
  induction n generalizing A with
  | zero => simp [det, fct]
  | succ n ih =>
    have h1 : (det (n + 1) A).natAbs ≤ (n + 1) * (m * (fct n * m ^ n)) := sumN_abs fun i hi => by
      have := ih (A := fun r c => A (sk i r) (c + 1)) fun r c hr hc => h _ _ (sk_lt hr) (by omega)
      rw [Int.natAbs_mul, Int.natAbs_mul, show (sg i).natAbs = 1 from by unfold sg; split <;> rfl, Nat.one_mul]
      exact Nat.mul_le_mul (h i 0 hi (by omega)) this
    rw [show fct (n + 1) * m ^ (n + 1) = (n + 1) * (m * (fct n * m ^ n)) from by rw [show fct (n + 1) = (n + 1) * fct n from rfl, Nat.pow_succ]; grind]
    exact h1
theorem det_two (A : Nat → Nat → Int) : det 2 A = A 0 0 * A 1 1 - A 1 0 * A 0 1 := by
  simp [det, sumN, sg, sk]; grind
theorem det_one (A : Nat → Nat → Int) : det 1 A = A 0 0 := by
  simp [det, sumN, sg]
theorem det_scale (n : Nat) (x : Int) (A : Nat → Nat → Int) : det n (fun i j => x * A i j) = x ^ n * det n A := by
  induction n generalizing A with
  | zero => simp [det]
  | succ n ih =>
    show sumN (n + 1) (fun i => sg i * (x * A i 0) * det n fun r c => x * A (sk i r) (c + 1)) = _ * sumN (n + 1) _
    rw [show ∀ f : Nat → Int, x ^ (n + 1) * sumN (n + 1) f = x ^ (n + 1) * sumN (n + 1) f + 0 * sumN (n + 1) f from fun f => by omega]
    refine sumN_lin fun i hi => ?_
    rw [ih (fun r c => A (sk i r) (c + 1)), Int.pow_succ]
    grind

/-- One step without fractions, over q. -/
def nxt (q : Int) (M : Nat → Nat → Int) : Nat → Nat → Int := fun i j => (chio M i j).tdiv q
/-- Each minor of r + 1 rows is a whole number times q to the r-th, that isn't above b r. -/
def Good (q : Int) (b : Nat → Nat) (M : Nat → Nat → Int) : Prop :=
  ∀ (r : Nat) (R C : Nat → Nat), ∃ D : Int, det (r + 1) (fun i j => M (R i) (C j)) = q ^ r * D ∧ D.natAbs ≤ b r
/-- The first one, then those that are meant, each one farther. -/
def fst1 (R : Nat → Nat) : Nat → Nat
  | 0 => 0
  | i + 1 => R i + 1
theorem Good.entry {q : Int} {b : Nat → Nat} {M : Nat → Nat → Int} (h : Good q b M) (i j : Nat) : (M i j).natAbs ≤ b 0 := by
  obtain ⟨D, h1, h2⟩ := h 0 (fun _ => i) (fun _ => j)
  rw [det_one, Int.pow_zero, Int.one_mul] at h1
  rw [h1]; exact h2
theorem Good.exact {q : Int} {b : Nat → Nat} {M : Nat → Nat → Int} (h : Good q b M) (hq : q ≠ 0) (i j : Nat) : q * nxt q M i j = chio M i j := by
  obtain ⟨D, h1, _⟩ := h 1 (fst1 fun _ => i) (fst1 fun _ => j)
  rw [det_two, Int.pow_one] at h1
  have e : chio M i j = q * D := h1
  unfold nxt
  rw [e, Int.mul_tdiv_cancel_left _ hq]
theorem chio_fst (M : Nat → Nat → Int) (R C : Nat → Nat) : chio (fun i j => M (fst1 R i) (fst1 C j)) = fun i j => chio M (R i) (C j) := rfl
theorem pow_ne {q : Int} (hq : q ≠ 0) (n : Nat) : q ^ n ≠ 0 := by
  induction n with
  | zero => simp
  | succ n ih => rw [Int.pow_succ]; exact Int.mul_ne_zero ih hq
theorem mul_left_pow {q x y : Int} (hq : q ≠ 0) (n : Nat) (h : q ^ n * x = q ^ n * y) : x = y :=
  Int.eq_of_mul_eq_mul_left (pow_ne hq n) h
/-- What a minor is, one step on. -/
theorem minor_next {q : Int} {b : Nat → Nat} {M : Nat → Nat → Int} (h : Good q b M) (hq : q ≠ 0) (ha : M 0 0 ≠ 0) {r : Nat} {R C : Nat → Nat} {D : Int}
    (hD : det (r + 2) (fun i j => M (fst1 R i) (fst1 C j)) = q ^ (r + 1) * D) :
    det (r + 1) (fun i j => nxt q M (R i) (C j)) = M 0 0 ^ r * D := by
  have h1 := det_scale (r + 1) q (fun i j => nxt q M (R i) (C j))
  have h2 : (fun i j => q * nxt q M (R i) (C j)) = chio (fun i j => M (fst1 R i) (fst1 C j)) := by
    funext i j
    rw [chio_fst]
    exact h.exact hq _ _
  have h3 := det_chio (r + 1) (fun i j => M (fst1 R i) (fst1 C j))
  rw [h2] at h1
  rw [h1, hD] at h3
  have h4 : M 0 0 ^ (r + 1) * (q ^ (r + 1) * D) = M 0 0 * (q ^ (r + 1) * det (r + 1) fun i j => nxt q M (R i) (C j)) := h3
  rw [Int.pow_succ (M 0 0)] at h4
  refine mul_left_pow hq (r + 1) (Int.eq_of_mul_eq_mul_left ha ?_)
  grind
theorem Good.next {q : Int} {b : Nat → Nat} {M : Nat → Nat → Int} (h : Good q b M) (hq : q ≠ 0) (ha : M 0 0 ≠ 0) : Good (M 0 0) (fun r => b (r + 1)) (nxt q M) := fun r R C => by
  obtain ⟨D, h1, h2⟩ := h (r + 1) (fst1 R) (fst1 C)
  exact ⟨D, minor_next h hq ha h1, h2⟩
/-- The determinant of a matrix of n rows, that stands where q was the leading number last. -/
def Full (q : Int) (n : Nat) (M : Nat → Nat → Int) (D : Int) : Prop := q * det n M = q ^ n * D
theorem fst1_id : fst1 (fun i => i) = fun i => i := by funext i; cases i <;> rfl
theorem Full.next {q : Int} {b : Nat → Nat} {M : Nat → Nat → Int} {n : Nat} {D : Int} (h : Good q b M) (hq : q ≠ 0) (ha : M 0 0 ≠ 0) (hf : Full q (n + 1) M D) : Full (M 0 0) n (nxt q M) D := by
  unfold Full at hf ⊢
  cases n with
  | zero =>
    rw [det_one, Int.pow_succ, Int.pow_zero, Int.one_mul] at hf
    have := Int.eq_of_mul_eq_mul_left hq hf
    show _ * 1 = _
    rw [this]; simp
  | succ n =>
    have hf' : det (n + 2) M = q ^ (n + 1) * D := by
      refine Int.eq_of_mul_eq_mul_left hq ?_
      rw [hf, Int.pow_succ q (n + 1)]; grind
    have h2 := minor_next (R := fun i => i) (C := fun i => i) h hq ha (r := n) (D := D) (by rw [fst1_id]; exact hf')
    rw [h2, Int.pow_succ]; grind
theorem Full.zero {q D : Int} {M : Nat → Nat → Int} (h : Full q 0 M D) : D = q := by
  unfold Full at h
  simp [det] at h
  exact h.symm
theorem Full.nil {q D : Int} {n : Nat} {M : Nat → Nat → Int} (h : Full q (n + 1) M D) (hq : q ≠ 0) (hz : ∀ i, i < n + 1 → M i 0 = 0) : D = 0 := by
  unfold Full at h
  rw [det_nil hz, Int.mul_zero] at h
  rcases Int.mul_eq_zero.1 h.symm with e | e
  · exact absurd e (pow_ne hq _)
  · exact e
/-- The first row and another one together. -/
def add0 (k : Nat) (M : Nat → Nat → Int) : Nat → Nat → Int := updR M 0 fun c => M 0 c + M k c
theorem Good.add0 {q : Int} {b : Nat → Nat} {M : Nat → Nat → Int} (h : Good q b M) (k : Nat) : Good q (fun r => 2 * b r) (add0 k M) := fun r R C => by
  by_cases e : ∃ p, p < r + 1 ∧ R p = 0
  · obtain ⟨p, hp, hp0⟩ := e
    by_cases e2 : ∃ p', p' < r + 1 ∧ p' ≠ p ∧ R p' = 0
    · obtain ⟨p', hp', hne, hp0'⟩ := e2
      exact ⟨0, by rw [det_twice hne hp' hp (fun c => by rw [hp0, hp0'])]; simp, Nat.zero_le _⟩
    · obtain ⟨D1, h1, b1⟩ := h r R C
      obtain ⟨D2, h2, b2⟩ := h r (fun i => if i = p then k else R i) C
      refine ⟨D1 + D2, ?_, ?_⟩
      · have e3 : det (r + 1) (fun i j => Go.Proofs.YtdcpoamjmoceiaaDoor.add0 k M (R i) (C j)) = det (r + 1) (updR (fun i j => M (R i) (C j)) p fun c => 1 * M 0 (C c) + 1 * M k (C c)) := det_congr fun i j hi hj => by
          unfold Go.Proofs.YtdcpoamjmoceiaaDoor.add0 updR
          by_cases e4 : i = p
          · subst e4; rw [if_pos hp0, if_pos rfl]; show _ = 1 * M 0 (C j) + 1 * M k (C j); rw [Int.one_mul, Int.one_mul]
          · rw [if_neg (fun e5 => e2 ⟨i, hi, e4, e5⟩), if_neg e4]
        have e5 : updR (fun i j => M (R i) (C j)) p (fun c => M 0 (C c)) = fun i j => M (R i) (C j) := by
          funext i j; unfold updR; split
          · next e6 => subst e6; rw [hp0]
          · rfl
        have e6 : updR (fun i j => M (R i) (C j)) p (fun c => M k (C c)) = fun i j => M (if i = p then k else R i) (C j) := by
          funext i j; unfold updR; split <;> rfl
        rw [e3, det_lin hp, e5, e6, h1, h2]
        grind
      · have := Int.natAbs_add_le D1 D2
        show _ ≤ 2 * b r
        omega
  · obtain ⟨D, h1, b1⟩ := h r R C
    refine ⟨D, ?_, by show _ ≤ 2 * b r; omega⟩
    rw [← h1]
    exact det_congr fun i j hi _ => by unfold Go.Proofs.YtdcpoamjmoceiaaDoor.add0 updR; rw [if_neg fun e5 => e ⟨i, hi, e5⟩]
theorem Full.add0 {q D : Int} {n k : Nat} {M : Nat → Nat → Int} (h : Full q n M D) (hn : 0 < n) (h0 : k ≠ 0) (hk : k < n) : Full q n (add0 k M) D := by
  unfold Full at h ⊢
  rw [show Go.Proofs.YtdcpoamjmoceiaaDoor.add0 k M = updR M 0 fun c => 1 * M 0 c + 1 * M k c from by unfold Go.Proofs.YtdcpoamjmoceiaaDoor.add0; simp only [Int.one_mul], det_row hn hk (Ne.symm h0), Int.one_mul]
  exact h
/-- Where nothing was done yet. -/
theorem Good.start {A : Nat → Nat → Int} {m : Nat} (h : ∀ i j, (A i j).natAbs ≤ m) : Good 1 (fun r => fct (r + 1) * m ^ (r + 1)) A := fun r R C =>
  ⟨_, by rw [Int.one_pow, Int.one_mul], det_abs fun i j _ _ => h _ _⟩
theorem Full.start (n : Nat) (A : Nat → Nat → Int) : Full 1 n A (det n A) := by unfold Full; rw [Int.one_pow]

/-- The leading numbers, one step after another, up to the first that isn't above 0. -/
def mins : Nat → Int → (Nat → Nat → Int) → List Int
  | 0, _, _ => []
  | n + 1, q, M => M 0 0 :: (if 0 < M 0 0 then mins n (M 0 0) (nxt q M) else [])
theorem sumN_mul (n : Nat) (f : Nat → Int) (x : Int) : x * sumN n f = sumN n fun i => x * f i := by
  induction n with
  | zero => simp [sumN]
  | succ n ih => unfold sumN; rw [← ih]; grind
theorem sumN_add (n : Nat) (f g : Nat → Int) : sumN n f + sumN n g = sumN n fun i => f i + g i := by
  induction n with
  | zero => simp [sumN]
  | succ n ih => unfold sumN; rw [← ih]; dsimp only; omega
/-- The square of a list by a matrix. -/
def quad (n : Nat) (M : Nat → Nat → Int) (x : Nat → Int) : Int := sumN n fun i => sumN n fun j => M i j * x i * x j
def PD (n : Nat) (M : Nat → Nat → Int) : Prop := ∀ x : Nat → Int, (∃ i, i < n ∧ x i ≠ 0) → 0 < quad n M x
def Symm (M : Nat → Nat → Int) : Prop := ∀ i j, M i j = M j i
theorem quad_congr {n : Nat} {M K : Nat → Nat → Int} {x y : Nat → Int} (h : ∀ i j, i < n → j < n → M i j = K i j) (hx : ∀ i, i < n → x i = y i) : quad n M x = quad n K y :=
  sumN_congr fun i hi => sumN_congr fun j hj => by rw [h i j hi hj, hx i hi, hx j hj]
theorem quad_mul (n : Nat) (M : Nat → Nat → Int) (x : Nat → Int) (a : Int) : quad n (fun i j => a * M i j) x = a * quad n M x := by
  unfold quad
  rw [sumN_mul]
  refine sumN_congr fun i _ => ?_
  rw [sumN_mul]
  exact sumN_congr fun j _ => by grind
theorem quad_of (n : Nat) (M : Nat → Nat → Int) (x : Nat → Int) (a : Int) : quad n M (fun i => a * x i) = a * a * quad n M x := by
  unfold quad
  rw [sumN_mul]
  refine sumN_congr fun i _ => ?_
  rw [sumN_mul]
  exact sumN_congr fun j _ => by grind
theorem quad_head (n : Nat) (M : Nat → Nat → Int) (x : Nat → Int) :
    quad (n + 1) M x = M 0 0 * x 0 * x 0 + x 0 * (sumN n fun j => M 0 (j + 1) * x (j + 1)) + x 0 * (sumN n fun i => M (i + 1) 0 * x (i + 1)) + quad n (fun i j => M (i + 1) (j + 1)) fun i => x (i + 1) := by
  unfold quad
  rw [sumN_head, sumN_head]
  have h1 : (sumN n fun i => M 0 (i + 1) * x 0 * x (i + 1)) = x 0 * sumN n fun j => M 0 (j + 1) * x (j + 1) := by
    rw [sumN_mul]; exact sumN_congr fun i _ => by grind
  have h2 : (sumN n fun i => sumN (n + 1) fun j => M (i + 1) j * x (i + 1) * x j) = x 0 * (sumN n fun i => M (i + 1) 0 * x (i + 1)) + sumN n fun i => sumN n fun j => M (i + 1) (j + 1) * x (i + 1) * x (j + 1) := by
    rw [sumN_mul, sumN_add]
    refine sumN_congr fun i _ => ?_
    rw [sumN_head]
    grind
  rw [h1, h2]
  grind
theorem sumN_sq (n : Nat) (f : Nat → Int) : sumN n f * sumN n f = sumN n fun i => sumN n fun j => f i * f j := by
  rw [sumN_mul]
  refine sumN_congr fun i _ => ?_
  rw [Int.mul_comm, sumN_mul]
/-- The square, with the first number's share made whole. -/
theorem quad_chio {n : Nat} {M : Nat → Nat → Int} (hs : Symm M) (x : Nat → Int) :
    M 0 0 * quad (n + 1) M x = (M 0 0 * x 0 + sumN n fun j => M 0 (j + 1) * x (j + 1)) * (M 0 0 * x 0 + sumN n fun j => M 0 (j + 1) * x (j + 1)) + quad n (chio M) fun i => x (i + 1) := by
  have h1 : (sumN n fun i => M (i + 1) 0 * x (i + 1)) = sumN n fun j => M 0 (j + 1) * x (j + 1) := sumN_congr fun i _ => by rw [hs (i + 1) 0]
  have h2 : quad n (chio M) (fun i => x (i + 1)) + (sumN n fun j => M 0 (j + 1) * x (j + 1)) * (sumN n fun j => M 0 (j + 1) * x (j + 1)) = M 0 0 * quad n (fun i j => M (i + 1) (j + 1)) fun i => x (i + 1) := by
    rw [sumN_sq, ← quad_mul]
    unfold quad
    rw [sumN_add]
    refine sumN_congr fun i _ => ?_
    rw [sumN_add]
    refine sumN_congr fun j _ => ?_
    unfold chio
    rw [hs (i + 1) 0]
    grind
  rw [quad_head, h1]
  grind
theorem mul_self_nonneg (x : Int) : 0 ≤ x * x := by
  rcases Int.le_total 0 x with h | h
  · exact Int.mul_nonneg h h
  · exact Int.mul_nonneg_of_nonpos_of_nonpos h h
theorem mul_self_pos {x : Int} (h : x ≠ 0) : 0 < x * x := by
  have := mul_self_nonneg x
  have : x * x ≠ 0 := Int.mul_ne_zero h h
  omega
theorem pos_of_mul {a b : Int} (ha : 0 < a) (h : 0 < a * b) : 0 < b := by
  rcases Int.lt_trichotomy b 0 with h1 | h1 | h1
  · have := Int.mul_neg_of_pos_of_neg ha h1; omega
  · subst h1; simp at h
  · exact h1
theorem pd_chio {n : Nat} {M : Nat → Nat → Int} (hs : Symm M) : PD (n + 1) M ↔ 0 < M 0 0 ∧ PD n (chio M) := by
  constructor
  · intro h
    have ha : 0 < M 0 0 := by
      have := h (fun i => if i = 0 then 1 else 0) ⟨0, by omega, by simp⟩
      rw [quad_head] at this
      rw [sumN_zero (n := n) (f := fun j => M 0 (j + 1) * if j + 1 = 0 then 1 else 0) (fun i _ => by simp), sumN_zero (n := n) (f := fun i => M (i + 1) 0 * if i + 1 = 0 then 1 else 0) (fun i _ => by simp),
        show quad n (fun i j => M (i + 1) (j + 1)) (fun i => if i + 1 = 0 then 1 else 0) = 0 from sumN_zero fun i _ => sumN_zero fun j _ => by simp] at this
      simpa using this
    refine ⟨ha, fun y hy => ?_⟩
    obtain ⟨i, hi, hy⟩ := hy
    have hx := h (fun i => match i with | 0 => - sumN n fun j => M 0 (j + 1) * y j | i + 1 => M 0 0 * y i) ⟨i + 1, by omega, Int.mul_ne_zero (by omega) hy⟩
    have hq := quad_chio (n := n) hs (fun i => match i with | 0 => - sumN n fun j => M 0 (j + 1) * y j | i + 1 => M 0 0 * y i)
    dsimp only at hq
    have e : (sumN n fun j => M 0 (j + 1) * (M 0 0 * y j)) = M 0 0 * sumN n fun j => M 0 (j + 1) * y j := by
      rw [sumN_mul]; exact sumN_congr fun j _ => by grind
    rw [e, quad_of] at hq
    have h3 := Int.mul_pos ha hx
    rw [hq] at h3
    have h4 : 0 < M 0 0 * M 0 0 * quad n (chio M) y := by
      have : (M 0 0 * -(sumN n fun j => M 0 (j + 1) * y j) + M 0 0 * sumN n fun j => M 0 (j + 1) * y j) = 0 := by grind
      rw [this] at h3
      simpa using h3
    exact pos_of_mul (Int.mul_pos ha ha) h4
  · rintro ⟨ha, hc⟩ x ⟨i, hi, hx⟩
    refine pos_of_mul ha ?_
    rw [quad_chio hs]
    by_cases e : ∃ j, j < n ∧ x (j + 1) ≠ 0
    · have := hc (fun i => x (i + 1)) e
      have := mul_self_nonneg (M 0 0 * x 0 + sumN n fun j => M 0 (j + 1) * x (j + 1))
      omega
    · have hz : ∀ j, j < n → x (j + 1) = 0 := fun j hj => Classical.byContradiction fun h => e ⟨j, hj, h⟩
      have h0 : x 0 ≠ 0 := by
        cases i with
        | zero => exact hx
        | succ i => exact absurd (hz i (by omega)) hx
      rw [sumN_zero fun j hj => by rw [hz j hj, Int.mul_zero], show quad n (chio M) (fun i => x (i + 1)) = 0 from sumN_zero fun i hi => sumN_zero fun j hj => by simp only [hz j hj, Int.mul_zero]]
      have := mul_self_pos (x := M 0 0 * x 0) (Int.mul_ne_zero (by omega) h0)
      simpa using this
theorem Symm.chio {M : Nat → Nat → Int} (h : Symm M) : Symm (chio M) := fun i j => by
  unfold Go.Proofs.YtdcpoamjmoceiaaDoor.chio; rw [h (i + 1) (j + 1), h (i + 1) 0, h 0 (j + 1)]; grind
theorem Symm.nxt {M : Nat → Nat → Int} (h : Symm M) (q : Int) : Symm (nxt q M) := fun i j => by
  unfold Go.Proofs.YtdcpoamjmoceiaaDoor.nxt; rw [h.chio i j]
theorem pd_mins {b : Nat → Nat} : ∀ {n : Nat} {q : Int} {M : Nat → Nat → Int}, 0 < q → Good q b M → Symm M → (PD n M ↔ ∀ x ∈ mins n q M, 0 < x) := by
  intro n
  induction n generalizing b with
  | zero =>
    intro q M _ _ _
    constructor
    · intro _ x h; cases h
    · rintro _ x ⟨i, hi, _⟩; omega
  | succ n ih =>
    intro q M hq hg hs
    rw [pd_chio hs]
    show _ ↔ ∀ x ∈ M 0 0 :: (if 0 < M 0 0 then mins n (M 0 0) (nxt q M) else []), 0 < x
    by_cases ha : 0 < M 0 0
    · have h1 := ih ha (hg.next (by omega) (by omega)) (hs.nxt q)
      have h2 : PD n (chio M) ↔ PD n (nxt q M) := by
        have e : chio M = fun i j => q * nxt q M i j := by funext i j; exact (hg.exact (by omega) i j).symm
        have e2 : ∀ x, quad n (chio M) x = q * quad n (nxt q M) x := fun x => by rw [e, quad_mul]
        exact ⟨fun h x hx => pos_of_mul hq (by rw [← e2]; exact h x hx), fun h x hx => by rw [e2]; exact Int.mul_pos hq (h x hx)⟩
      rw [if_pos ha, h2, h1]
      simp [ha]
    · rw [if_neg ha]
      simp [ha]
theorem pd_congr {n : Nat} {A B : Nat → Nat → Int} (h : ∀ i j, i < n → j < n → A i j = B i j) : PD n A ↔ PD n B :=
  ⟨fun hp x hx => by rw [← quad_congr h fun _ _ => rfl]; exact hp x hx, fun hp x hx => by rw [quad_congr h fun _ _ => rfl]; exact hp x hx⟩
theorem mins_len : ∀ (n : Nat) (q : Int) (M : Nat → Nat → Int), (mins n q M).length ≤ n := by
  intro n
  induction n with
  | zero => intro q M; exact Nat.le_refl _
  | succ n ih =>
    intro q M
    unfold mins
    have := ih (M 0 0) (nxt q M)
    split <;> simp <;> omega
end Go.Proofs.YtdcpoamjmoceiaaDoor
/-
  Symmetric matrices: a piece of a row.
-/
namespace Go.Proofs.YtdcpoamjmoceiaaDoor
open Go Go.RowKit
set_option maxRecDepth 100000
set_option maxRecDepth 100000

end Go.Proofs.YtdcpoamjmoceiaaDoor
/-
  append(l, make([]int64, k)...): a list of the call's own, and k noughts behind.
-/
namespace Go.Proofs.YtdcpoamjmoceiaaDoor
open Go Go.RowKit
set_option maxRecDepth 100000
set_option maxRecDepth 100000

end Go.Proofs.YtdcpoamjmoceiaaDoor
/-
  Symmetric matrices: rows more.
-/
namespace Go.Proofs.YtdcpoamjmoceiaaDoor
open Go Go.RowKit
set_option maxRecDepth 100000
set_option maxRecDepth 100000

end Go.Proofs.YtdcpoamjmoceiaaDoor
/-
  Symmetric matrices: rows fewer.
-/
namespace Go.Proofs.YtdcpoamjmoceiaaDoor
open Go Go.RowKit
set_option maxRecDepth 100000
set_option maxRecDepth 100000

end Go.Proofs.YtdcpoamjmoceiaaDoor
/-
  Symmetric matrices: what was grown and then made fewer again.
-/
namespace Go.Proofs.YtdcpoamjmoceiaaDoor
open Go Go.RowKit
set_option maxRecDepth 100000
set_option maxRecDepth 100000

end Go.Proofs.YtdcpoamjmoceiaaDoor
/-
  Symmetric matrices: what Grow and then Drop tell of a matrix that is right.
-/
namespace Go.Proofs.YtdcpoamjmoceiaaDoor
open Go Go.RowKit
set_option maxRecDepth 100000
set_option maxRecDepth 100000

theorem idx_turn (n i j : Int) : idx n i j = idx n j i := by
  unfold idx
  rw [Int.min_comm i j, Int.max_comm i j]
end Go.Proofs.YtdcpoamjmoceiaaDoor
/-
  Rows and the matrices that they are; how great they get.
-/
namespace Go.Proofs.YtdcpoamjmoceiaaDoor
open Go Go.RowKit
set_option maxRecDepth 100000
set_option maxRecDepth 100000

/-- The rows L are the first s rows and columns of M. -/
def Mat (s : Nat) (L : List (List Int)) (M : Nat → Nat → Int) : Prop := L.length = s ∧ ∀ i, i < s → (L.getD i []).length = s ∧ ∀ j, j < s → zth (L.getD i []) j = M i j
/-- How great a minor of r + 1 rows may be, k steps on. -/
def bb (k r : Nat) : Nat := 2 ^ k * (fct (r + k + 1) * 1073741824 ^ (r + k + 1))
theorem bb_succ (k r : Nat) : bb (k + 1) r = 2 * bb k (r + 1) := by
  unfold bb
  rw [show r + (k + 1) + 1 = r + 1 + k + 1 by omega, Nat.pow_succ, Nat.mul_comm (2 ^ k) 2, Nat.mul_assoc]
theorem bp5_is : bp 5 = 18446744073709551616 * 18446744073709551616 * 18446744073709551616 * 18446744073709551616 * 18446744073709551616 := by
  rw [bp_succ 4, bp_succ 3, bp_succ 2, bp_succ 1, bp_succ 0, bp_zero, Nat.one_mul]
theorem bb_bp {k : Nat} (h : k ≤ 7) : bb k 0 < bp 5 := by
  rw [bp5_is]
  rcases k with _ | _ | _ | _ | _ | _ | _ | _ | k
  · decide +kernel
  · decide +kernel
  · decide +kernel
  · decide +kernel
  · decide +kernel
  · decide +kernel
  · decide +kernel
  · decide +kernel
  · omega
/-- Where the elimination stands. -/
def St (q : Int) (k : Nat) (M : Nat → Nat → Int) : Prop := Good q (bb k) M ∧ q ≠ 0 ∧ q.natAbs < bp 5
theorem Good.mono {q : Int} {b c : Nat → Nat} {M : Nat → Nat → Int} (h : Good q b M) (hbc : ∀ r, b r ≤ c r) : Good q c M := fun r R C => by
  obtain ⟨D, h1, h2⟩ := h r R C
  exact ⟨D, h1, Nat.le_trans h2 (hbc r)⟩
theorem St.entry {q : Int} {k : Nat} {M : Nat → Nat → Int} (h : St q k M) (hk : k ≤ 7) (i j : Nat) : (M i j).natAbs < bp 5 := Nat.lt_of_le_of_lt (h.1.entry i j) (bb_bp hk)
theorem St.next {q : Int} {k : Nat} {M : Nat → Nat → Int} (h : St q k M) (hk : k ≤ 7) (ha : M 0 0 ≠ 0) : St (M 0 0) (k + 1) (nxt q M) :=
  ⟨(h.1.next h.2.1 ha).mono fun r => by rw [bb_succ]; omega, ha, h.entry hk 0 0⟩
/-- The matrix itself, noughts beyond it. -/
def AM (n : Nat) (l : List Int) : Nat → Nat → Int := fun i j => if i < n ∧ j < n then ent n l i j else 0
theorem AM_at {n : Nat} {l : List Int} {i j : Nat} (hi : i < n) (hj : j < n) : AM n l i j = ent n l i j := by unfold AM; rw [if_pos ⟨hi, hj⟩]
theorem AM_abs {n : Nat} {l : List Int} (hR : rt n l = true) (i j : Nat) : (AM n l i j).natAbs ≤ 1073741824 := by
  unfold AM
  split
  · rename_i h
    obtain ⟨k, _, hk, he⟩ := idx_nat hR (show rng (n : Int) i j = true from decide_eq_true (by omega))
    rw [he]
    have := of_decide_eq_true ((rt_spec hR).2.2.2 k hk)
    omega
  · simp
theorem AM_symm (n : Nat) (l : List Int) : Symm (AM n l) := fun i j => by
  unfold AM
  by_cases h : i < n ∧ j < n
  · rw [if_pos h, if_pos ⟨h.2, h.1⟩]; unfold ent; rw [idx_turn]
  · rw [if_neg h, if_neg (fun x => h ⟨x.2, x.1⟩)]
theorem St.start {n : Nat} {l : List Int} (hR : rt n l = true) : St 1 0 (AM n l) :=
  ⟨(Good.start (AM_abs hR)).mono fun r => by unfold bb; rw [Nat.pow_zero, Nat.one_mul, Nat.add_zero]; exact Nat.le_refl _, by decide, by have := bp_mono (show 1 ≤ 5 by omega); rw [bp_succ 0, bp_zero] at this; show (1 : Nat) < bp 5; omega⟩
theorem Mat.start (n : Nat) (l : List Int) : Mat n (sqE n l) (AM n l) := by
  have hl : (sqE n l).length = n := by unfold sqE; simp
  refine ⟨hl, fun i hi => ?_⟩
  have e : (sqE n l).getD i [] = rowE n l i := by
    rw [List.getD_eq_getElem?_getD]
    unfold sqE
    rw [List.getElem?_map, List.getElem?_range hi]
    rfl
  rw [e]
  refine ⟨mk_len _ _, fun j hj => ?_⟩
  unfold rowE
  rw [mk_at hj, AM_at hi hj]
theorem zth_far {l : List Int} {k : Nat} (h : l.length ≤ k) : zth l k = 0 := by
  unfold zth
  rw [List.getD_eq_getElem?_getD, List.getElem?_eq_none h]
  rfl
theorem Mat.few {s k : Nat} {q : Int} {L : List (List Int)} {M : Nat → Nat → Int} (h : Mat s L M) (hs : St q k M) (hk : k ≤ 7) (i : Nat) : Few (L.getD i []) := fun j => by
  have h0 : (0 : Int).natAbs < bp 5 := bp_pos 5
  by_cases hi : i < s
  · obtain ⟨h1, h2⟩ := h.2 i hi
    by_cases hj : j < s
    · rw [h2 j hj]; exact hs.entry hk i j
    · rw [zth_far (by omega)]; exact h0
  · rw [List.getD_eq_getElem?_getD, List.getElem?_eq_none (by rw [h.1]; omega)]
    show (zth [] j).natAbs < _
    rw [zth_far (Nat.zero_le _)]; exact h0
theorem Mat.next {n : Nat} {q : Int} {L : List (List Int)} {M : Nat → Nat → Int} (h : Mat (n + 1) L M) : Mat n ((L.drop 1).map fun R => tk (L.getD 0 []) R q n) (nxt q M) := by
  have hl : (L.drop 1).length = n := by rw [List.length_drop, h.1]; omega
  refine ⟨by rw [List.length_map, hl], fun i hi => ?_⟩
  have e : (((L.drop 1).map fun R => tk (L.getD 0 []) R q n).getD i []) = tk (L.getD 0 []) (L.getD (i + 1) []) q n := by
    rw [List.getD_eq_getElem?_getD, List.getElem?_map, List.getElem?_eq_getElem (by omega), List.getElem_drop]
    have : L.getD (i + 1) [] = L[1 + i]'(by rw [h.1]; omega) := by
      rw [List.getD_eq_getElem?_getD, Nat.add_comm, List.getElem?_eq_getElem (by rw [h.1]; omega)]
      rfl
    rw [this]
    rfl
  rw [e]
  refine ⟨mk_len _ _, fun j hj => ?_⟩
  unfold tk
  rw [mk_at hj, (h.2 0 (by omega)).2 0 (by omega), (h.2 0 (by omega)).2 (j + 1) (by omega), (h.2 (i + 1) (by omega)).2 0 (by omega), (h.2 (i + 1) (by omega)).2 (j + 1) (by omega)]
  rfl
theorem Mat.rest {n : Nat} {L : List (List Int)} {M : Nat → Nat → Int} (h : Mat (n + 1) L M) : ∀ i, i < (L.drop 1).length → ((L.drop 1).getD i []).length = n + 1 := fun i hi => by
  have hl : (L.drop 1).length = n := by rw [List.length_drop, h.1]; omega
  rw [show (L.drop 1).getD i [] = L.getD (i + 1) [] from by rw [List.getD_eq_getElem?_getD, List.getD_eq_getElem?_getD, List.getElem?_drop, Nat.add_comm]]
  exact (h.2 (i + 1) (by omega)).1
def mnC (N : Int) (l : List Int) : Int := if rt N l then 0 else 23
def mnR (N : Int) (l : List Int) : List Int := if rt N l then mins N.toNat 1 (AM N.toNat l) else []
def elimB : ByteArray := ⟨#[101, 108, 105, 109]⟩
/-- The value u is the fault of that number, of package elim; of 0: none. -/
def ErrsE (w : World) (u : Value) (e : Int) : Prop := (e = 0 ∧ u = .nilIface) ∨ (e ≠ 0 ∧ ∃ t x, u = .iface t x ∧ IsEr w u (.flt elimB (.num e)))
theorem ErrsE.up {w w' : World} (hu : Up w w') {u : Value} {e : Int} (h : ErrsE w u e) : ErrsE w' u e := by
  rcases h with h | ⟨h1, t, x, h2, h3⟩
  · exact .inl h
  · exact .inr ⟨h1, t, x, h2, h3.up hu⟩
end Go.Proofs.YtdcpoamjmoceiaaDoor
/-
  Rows behind the first; what stays when other rows grow.
-/
namespace Go.Proofs.YtdcpoamjmoceiaaDoor
open Go Go.RowKit
set_option maxRecDepth 100000
set_option maxRecDepth 100000

/-- The slice behind the first of n + 1 rows. -/
def tailV (g n c2 : Nat) : Value := .slice (some ⟨g, if c2 = 0 then 0 else 1, none⟩) n c2
theorem run_tail {ev : Operand → Value} {w : World} {d : Option Tmp} {s : Tmp} {ty : TypeId} {pos : String} {af : Array Edge} {gd : Option (Nat × Bool)} {g n c2 : Nat} (hc : n ≤ c2) (hx : ev (.tmp s) = .slice (some ⟨g, 0, none⟩) (n + 1) (c2 + 1)) (hk : ev (.const (.int .i64 1)) = .int .i64 1) :
    (execOp ev { dst := d, op := .slice 96 (.tmp s) (some (.const (.int .i64 1))) none none, type := ty, pos := pos, after := af, guard := gd }).run Tryd.prog w = .ok (.value (tailV g n c2)) w := by
  unfold tailV
  rcases c2 with _ | c2
  · obtain rfl : n = 0 := by omega
    go_simp
  · go_simp
    intro h
    omega
theorem rv_tail {w : World} {g n c2 : Nat} {C : Array Value} {L : List (List Int)} (hl : L.length = n + 1) (hc : n + 1 ≤ c2 + 1) (hB : Blk w g 90 C) (hE : ∀ i, i < L.length → ∃ s, C[i]? = some s ∧ Wv w s (L.getD i [])) : Rv w (tailV g n c2) (L.drop 1) := by
  unfold tailV
  by_cases h0 : c2 = 0
  · have hn : (L.drop 1) = [] := List.length_eq_zero_iff.1 (by rw [List.length_drop]; omega)
    exact .inl ⟨hn, _, _, by rw [show n = 0 by omega]⟩
  · rw [if_neg h0]
    exact Rz.tail hl hc hB hE
theorem OwnW.mono {w : World} {b b' : Nat} {v : Value} {l : List Int} (h : OwnW w b v l) (hb : b' ≤ b) : OwnW w b' v l := by
  obtain ⟨h0, h1 | ⟨g', cap, cur, hv, hbb, hr⟩⟩ := h
  · exact ⟨h0, .inl h1⟩
  · exact ⟨h0, .inr ⟨g', cap, cur, hv, Nat.le_trans hb hbb, hr⟩⟩
theorem OwnR.mono {w : World} {b b' : Nat} {v : Value} {L : List (List Int)} (h : OwnR w b v L) (hb : b' ≤ b) : OwnR w b' v L := by
  obtain ⟨xs, ⟨h0, h1⟩, h2⟩ := h
  refine ⟨xs, ⟨h0, ?_⟩, fun i hi => by obtain ⟨s, h5, h6⟩ := h2 i hi; exact ⟨s, h5, h6.1, fun a n c e hn => Nat.le_trans hb (h6.2 a n c e hn)⟩⟩
  rcases h1 with h1 | ⟨g', cap, cur, hv, hbb, hr⟩
  · exact .inl h1
  · exact .inr ⟨g', cap, cur, hv, Nat.le_trans hb hbb, hr⟩
/-- Rows from block b on stay, when a row ahead of b grows. -/
theorem OwnR.grown {w w' : World} {b : Nat} {row : Option Nat} {v : Value} {L : List (List Int)} (h : OwnR w b v L) (hg : w.grownBy w' row) (hr : ∀ k, row = some k → k < b) : OwnR w' b v L := by
  have hk : ∀ {g : Nat} {t : TypeId} {C : Array Value}, Blk w g t C → b ≤ g → Blk w' g t C := fun {g t C} hB hb => by
    unfold Blk
    rw [hg.block g hB.lt (fun e => by have := hr g e.symm; omega)]
    exact hB
  obtain ⟨xs, ⟨h0, h1⟩, h2⟩ := h
  refine ⟨xs, ⟨h0, ?_⟩, fun i hi => ?_⟩
  · rcases h1 with h1 | ⟨g', cap, cur, hv, hbb, hB, hr⟩
    · exact .inl h1
    · exact .inr ⟨g', cap, cur, hv, hbb, hk hB hbb, hr⟩
  · obtain ⟨s, h5, h6, h7⟩ := h2 i hi
    refine ⟨s, h5, ?_, h7⟩
    rcases h6 with h6 | ⟨g', cap, C, hv, hc, hB, ht⟩
    · exact .inl h6
    · rcases Nat.eq_zero_or_pos (L.getD i []).length with h00 | h00
      · exact .inl ⟨List.length_eq_zero_iff.1 h00, _, _, by rw [hv, h00]⟩
      · exact .inr ⟨g', cap, C, hv, hc, hk hB (h7 _ _ _ hv h00), ht⟩
/-- The rows' block, and each row's. -/
theorem OwnR.open {w : World} {b : Nat} {v : Value} {L : List (List Int)} (h : OwnR w b v L) (h0 : 0 < L.length) :
    ∃ g cap C, v = .slice (some ⟨g, 0, none⟩) L.length cap ∧ b ≤ g ∧ L.length ≤ cap ∧ Blk w g 90 C ∧ ∀ i, i < L.length → ∃ s, C[i]? = some s ∧ Wb w b s (L.getD i []) := by
  obtain ⟨xs, ⟨_, h1 | ⟨g, cap, cur, hv, hbb, hB, hc, _, _, ht⟩⟩, h2⟩ := h
  · omega
  · refine ⟨g, cap, cur, hv, hbb, hc, hB, fun i hi => ?_⟩
    obtain ⟨s, h3, h4⟩ := h2 i hi
    rw [← ht, List.getElem?_take_of_lt (by omega), Array.getElem?_toList] at h3
    exact ⟨s, h3, h4⟩
theorem OwnR.tail {w : World} {b g s c2 : Nat} {L : List (List Int)} (h : OwnR w b (.slice (some ⟨g, 0, none⟩) (s + 1) (c2 + 1)) L) (hl : L.length = s + 1) : Rv w (tailV g s c2) (L.drop 1) := by
  obtain ⟨g', cap, C, hv, _, hc, hB, hE⟩ := h.open (by omega)
  injection hv with e1 e2 e3
  injection e1 with e1
  injection e1 with e1
  subst e1 e3
  exact rv_tail hl (by omega) hB fun i hi => by obtain ⟨s, h1, h2⟩ := hE i hi; exact ⟨s, h1, h2.1⟩
end Go.Proofs.YtdcpoamjmoceiaaDoor
/-
  elim.Minors.
-/
namespace Go.Proofs.YtdcpoamjmoceiaaDoor
open Go Go.RowKit
set_option maxRecDepth 100000
set_option maxRecDepth 100000

theorem ewrong_any (n : Int) (h0 : n ≠ 0) (w : World) :
    Calls Tryd.prog 57 #[.int .i64 n] w fun r w' => ∃ u, r = .returned u ∧ Up w w' ∧ ErrsE w' u n := by
  have HW := hid (fun w => wrap_any (op := { data := #[101, 108, 105, 109] }) (v := .iface 52 (.int .i64 n)) (e := .num n) (w := w) rfl)
  go_enter Tryd.func57, Tryd.ntmps57
  go_wp2_with (first | (go_at_call 67; (with_reducible refine (HW.out _).mono ?_); rintro r w1 ⟨u1, rfl, hu1, h1⟩))
  go_ret
  obtain ⟨t, u, rfl⟩ := h1.iface
  exact ⟨_, rfl, hu1, .inr ⟨h0, t, u, rfl, h1⟩⟩
theorem Blk.below {a b : World} {g B : Nat} {t : TypeId} {C : Array Value} (hB : Blk a g t C) (h : Below B a b) (hg : g < B) : Blk b g t C := by
  unfold Blk
  rw [h.block g hg]
  exact hB
theorem Blk.grown {w w' : World} {g : Nat} {row : Option Nat} {t : TypeId} {C : Array Value} (hB : Blk w g t C) (hg : w.grownBy w' row) (hr : row ≠ some g) : Blk w' g t C := by
  unfold Blk
  rw [hg.block g hB.lt (fun e => hr e.symm)]
  exact hB
theorem wpL_folded {P : Program} {ops : Array Oper} {rest : List Oper} {Q : Exit → Act → World → Prop} {a : Act} {w : World} (R : World → Prop) (h : R w) (k : ∀ w', R w' → wpList P ops Q rest a w') : wpList P ops Q rest a w := k w h
set_option maxHeartbeats 8000000 in
theorem minors_any {v : Value} {N : Int} {l : List Int} {w : World} (hm : Sm w v N l) :
    Calls Tryd.prog 52 #[v] w fun r w' => ∃ z u, r = .returned (.tuple #[z, u]) ∧ Up w w' ∧ Wv w' z (mnR N l) ∧ ErrsE w' u (mnC N l) := by
  have HR := hid (fun w' (hu : Up w w') => sright_any (hm.up hu))
  have HWR := hid (fun w => ewrong_any 23 (by decide) w)
  have HSm := hid hm
  obtain ⟨s, rfl, ⟨p, cap, rfl, -, -⟩, -, -, -⟩ := hm
  obtain ⟨W0, hW0⟩ : ∃ W0, w.alloc (.cells #[.int .i64 N, .slice p l.length cap] 24) = W0 := ⟨_, rfl⟩
  have hB : Blk W0 w.heap.size 24 #[.int .i64 N, .slice p l.length cap] := by rw [← hW0]; exact Blk.new _ _ rfl
  have hU : Up w W0 := by rw [← hW0]; exact Up.alloc _ _
  cases hR : rt N l with
  | false =>
    have e : mnC N l = 23 := by unfold mnC; rw [hR]; rfl
    have e2 : mnR N l = [] := by unfold mnR; rw [hR]; rfl
    rw [e, e2]
    rw [hR] at HR
    clear e e2 hR
    go_enter Tryd.func52, Tryd.ntmps52
    go_wp2_with (first
      | ((with_reducible apply ldM_P); exact rfl; exact rfl; exact hB; exact rfl)
      | (go_at_call 10; (with_reducible refine (HR.out _ hU).mono ?_); rintro r w1 ⟨rfl, hu1⟩)
      | (go_at_call 57; (with_reducible refine (HWR.out _).mono ?_); rintro r w2 ⟨u2, rfl, hu2, h2⟩))
    go_ret2
    exact ⟨_, _, rfl, (hU.trans hu1).trans hu2, .inl ⟨rfl, none, 0, rfl⟩, h2⟩
  | true =>
    rw [hR] at HR
    obtain ⟨n0, n8, _, _⟩ := rt_spec hR
    obtain ⟨n, rfl⟩ : ∃ n : Nat, N = (n : Int) := ⟨N.toNat, by omega⟩
    have e : mnC n l = 0 := by unfold mnC; rw [hR]; rfl
    have e2 : mnR n l = mins n 1 (AM n l) := by unfold mnR; rw [hR, if_pos rfl]; rfl
    rw [e, e2]
    have HSQ := hid (fun w' (hu : Up w w') => square_any (HSm.out.up hu) hR)
    have HSt := hid (St.start hR)
    have HMt := hid (Mat.start n l)
    have HO1 := hid (fun w => of_any 1 (by decide) (by decide) w)
    have hn8 : n ≤ 8 := by omega
    obtain ⟨T, hT⟩ : ∃ T, mins n 1 (AM n l) = T := ⟨_, rfl⟩
    rw [hT]
    clear e e2 hR n0 n8
    unfold wideV at *
    go_enter Tryd.func52, Tryd.ntmps52
    go_wp2_with (first
      | ((with_reducible apply ldM_P); exact rfl; exact rfl; (first | exact hB | exact hB3); exact rfl)
      | (go_at_call 10; (with_reducible refine (HR.out _ hU).mono ?_); rintro r w1 ⟨rfl, hu1⟩; replace hB := hB.up hu1; replace hU := hU.trans hu1)
      | (go_at_call 47; (with_reducible refine (HO1.out _).mono ?_); rintro r w2 ⟨rfl, hu2⟩; have hsz1 := hU.size; have hsz2 := hu2.size)
      | ((with_reducible apply st_rowP infoW); exact rfl; exact rfl; exact row_newz _ rfl
         refine wpL_folded (fun wd => Up w2 wd ∧ Row wd w2.heap.size 64 16 (limb (enc 1))) ⟨(by repeat (first | assumption | (with_reducible apply Up.of) | (with_reducible exact Below.refl _ _) | (with_reducible exact Up.refl _) | ((with_reducible apply bl_setRow); (focus (first | exact Nat.le_refl _ | (simp; done) | (simp; omega) | omega))) | (with_reducible apply below_drewN) | (with_reducible apply Below.drew) | ((with_reducible apply bl_alloc); (focus (first | exact Nat.le_refl _ | (simp; done) | (simp; omega) | omega))) | ((with_reducible apply bl_setCell); (focus (first | exact Nat.le_refl _ | (simp; done) | (simp; omega) | omega))) | ((with_reducible apply up_tr); assumption))), (by (repeat (first | assumption | ((with_reducible apply row_newc); (focus (first | rfl | (simp; done)))) | ((with_reducible apply row_newz); (focus (first | rfl | (simp; done)))) | (with_reducible apply row_same) | ((with_reducible apply row_else); (focus (first | (simp; done) | (simp; omega) | omega))) | (with_reducible apply row_alloc) | (with_reducible apply row_drew) | (with_reducible apply row_drewN) | ((with_reducible apply row_up); assumption))))⟩ ?_
         rintro wL ⟨hXL, hLast⟩
         have hU2 := (hU.trans hu2).trans hXL
         have hB3 := (hB.up hu2).up hXL)
      | (go_at_call 58; (with_reducible refine (HSQ.out _ hU2).mono ?_); rintro r w3 ⟨z3, rfl, hu3, b3, hb3, hO3⟩; have hLast3 := hLast.up hu3; have hU3 := hU2.trans hu3; have hlt2 := hLast.lt))
    have hO3b := hO3.mono (show w2.heap.size + 1 ≤ b3 by omega)
    obtain ⟨pz, cz, rfl⟩ := hO3.slice
    obtain ⟨bL, hbL⟩ : ∃ y, w2.heap.size = y := ⟨_, rfl⟩
    rw [hbL] at hLast3 hO3b hlt2 ⊢
    have hwbL : w.heap.size ≤ bL := by omega
    have hInv : ∃ (k s : Nat) (q : Int) (M : Nat → Nat → Int) (L : List (List Int)) (done : List Int) (bR : Nat), s + k = n ∧ Mat s L M ∧ St q k M ∧ done ++ mins s q M = T ∧ OwnR w3 bR (.slice pz (sqE n l).length cz) L ∧ bL < bR ∧
        OwnW w3 (bL + 1) (.slice none 0 0) done ∧ (∀ g, (Value.slice none 0 0).ownBlock = some g → g < bR) ∧ Row w3 bL 64 16 (limb (enc q)) ∧ Up w w3 ∧ done.length + s ≤ 8 :=
      ⟨0, n, 1, AM n l, sqE n l, [], b3, by omega, HMt.out, HSt.out, hT, hO3, by omega, OwnW.nil _ _, fun g h => by simp [Value.ownBlock] at h, hLast3, hU3, by simp; omega⟩
    clear hO3 hO3b hLast3 hlt2 hb3 hu3 hU3 hU2 hB hB3 hU hu2 hu1 hXL hLast hW0 HSt HMt hT hbL hsz1 hsz2 HSQ HO1 HR HWR
    go_loopg [4, 6] (n + 1) (fun g tm tr wr => ∃ (k s : Nat) (q : Int) (M : Nat → Nat → Int) (L : List (List Int)) (done : List Int) (bR : Nat), s ≤ g ∧ s + k = n ∧ Mat s L M ∧ St q k M ∧ done ++ mins s q M = T ∧ OwnR wr bR tr L ∧ bL < bR ∧
        OwnW wr (bL + 1) tm done ∧ (∀ g, tm.ownBlock = some g → g < bR) ∧ Row wr bL 64 16 (limb (enc q)) ∧ Up w wr ∧ done.length + s ≤ 8)
    case atStart =>
      obtain ⟨k, s, q, M, L, done, bR, h1, h2⟩ := hInv
      exact ⟨k, s, q, M, L, done, bR, by omega, h1, h2⟩
    case round =>
      clear hInv
      obtain ⟨k, s, q, M, L, done, bR, hsg, hsk, hMat, hSt, hDone, hO, hbR, hOW, hob, hRow, hu, hdl⟩ := hrel
      obtain ⟨pm, cm, rfl⟩ := hOW.slice
      obtain ⟨pr, cr, rfl⟩ := hO.slice
      rw [hMat.1]
      rcases s with _ | s
      · have hDn : done = T := by rw [← hDone]; simp [mins]
        subst hDn
        clear hDone
        go_wp2_with fail
        go_ret2
        exact ⟨_, _, rfl, hu, hOW.wv, .inl ⟨rfl, rfl⟩⟩
      · obtain ⟨gR, cR, CR, hv, hgR, hcR, hBR, hE⟩ := hO.open (by rw [hMat.1]; omega)
        injection hv with x1 x2 x3
        subst x1 x3
        rw [hMat.1] at hcR
        obtain ⟨sF, hsF, hWF, hWFb⟩ := hE 0 (by rw [hMat.1]; omega)
        obtain ⟨hLF, hLFe⟩ := hMat.2 0 (by omega)
        obtain ⟨gF, cF, CF, hvF, hcF, hBF, htF⟩ := hWF.open (by rw [hLF]; omega)
        have HWv := hid (fun w' (hB : Blk w' gF 64 CF) => show Wv w' (.slice (some ⟨gF, 0, none⟩) (s + 1) cF) (L.getD 0 []) from .inr ⟨gF, cF, CF, by rw [hLF], hcF, hB, htF⟩)
        subst hvF
        have hgF : bR ≤ gF := hWFb _ _ _ rfl (by rw [hLF]; omega)
        rw [hLF] at hsF
        have hF00 : zth (L.getD 0 []) 0 = M 0 0 := hLFe 0 (by omega)
        have hRng : ∀ w', Blk w' gF 64 CF → w'.rangeAt gF 0 (wc (M 0 0)) := fun w' hB => by
          have h := wv_range hB htF (i := 0) (by rw [hLF]; omega)
          rw [hF00, Nat.zero_mul] at h
          exact h
        have HRng := hid hRng
        have hcx := hBR.cell 0 hsF
        have hk7 : k ≤ 7 := by omega
        have HSg := hid (fun w => sign_z (few_inR (k := 5) (by omega) (hSt.entry hk7 0 0)) w)
        unfold wideV at HSg
        have hlt := hRow.lt
        have hne : (Value.slice pm done.length cm).ownBlock ≠ some gF := fun e => by have := hob _ e; omega
        have hDl : done.length < 1000000 := by omega
        have HE := hid hE
        have hmn : mins (s + 1) q M = M 0 0 :: (if 0 < M 0 0 then mins s (M 0 0) (nxt q M) else []) := rfl
        rw [hmn] at hDone
        rw [hMat.1] at hO
        obtain ⟨c2, rfl⟩ : ∃ c2, cr = c2 + 1 := ⟨cr - 1, by omega⟩
        clear hmn hRng hF00 htF hLFe hWF hWFb hE x2 hcF
        have HMat := hid hMat
        have HSt := hid hSt
        have HDone := hid hDone
        have hL00 := hLF
        have HOb := hid hob
        have HO := hid hO
        clear hMat hSt hDone hob hO hsF hLF
        obtain ⟨m0, hm0⟩ : ∃ y, M 0 0 = y := ⟨_, rfl⟩
        have HM0 := hid hm0
        rw [hm0] at HRng HSg
        clear hm0
        by_cases hp : 0 < m0
        · have ds : decide (sgn m0 ≤ 0) = false := by unfold sgn; rw [decide_eq_false]; split <;> (try split) <;> omega
          go_wp2_with (first
            | ((with_reducible apply ldW_P); exact rfl; exact rfl; (first | exact HRng.out _ hBF | exact HRng.out _ hBF6))
            | ((with_reducible apply bsW_P); exact rfl)
            | ((with_reducible apply appW (l := done) (m := [m0])); exact rfl; exact rfl; exact OwnW.up (Up.alloc _ _) hOW; exact one_range rfl; (focus (simp; omega)); exact hDl; (focus (simp; done)); rintro v6 w6 hO6 hg6 hb6
               obtain ⟨p6, c6, rfl⟩ := hO6.slice
               have hBF6 := (hBF.up (Up.alloc _ _)).grown hg6 hne
               have hOR6 := (HO.out.up (Up.alloc _ _)).grown hg6 HOb.out
               have hRow6 : Row w6 bL 64 16 (limb (enc q)) := Blk.below (hRow.up (Up.alloc _ _)) hb6 (Nat.lt_succ_self _)
               have hu6 : Up w w6 := Below.trans (hu.trans (Up.alloc _ _)) (Below.mono hb6 (by omega)))
            | (go_at_call 62; (with_reducible refine (HSg.out _).mono ?_); rintro r w7 ⟨rfl, hu7⟩))
          have hF7 := hBF6.up hu7
          have hRow7 := hRow6.up hu7
          have hOR7 := hOR6.up hu7
          have hO7 := hO6.up hu7
          have hU7 := hu6.trans hu7
          obtain ⟨NX, hNX⟩ : ∃ y, ((L.drop 1).map fun R => tk (L.getD 0 []) R q s) = y := ⟨_, rfl⟩
          have HNX := hid hNX
          have HFW : Hid (∀ w', Up w7 w' → Calls Tryd.prog 60 #[.slice (some ⟨gF, 0, none⟩) (s + 1) cF, tailV gR s c2, .agg (cells 16 (limb (enc q)))] w' (fun e w'' => Up w' w'' ∧ ∃ v, e = .returned v ∧ (fun v w'' => ∃ b, w7.heap.size ≤ b ∧ OwnR w'' b v NX) v w'')) := hid (fun w' hu' => by
            have hf := fewer_any (q := q) (n := s) (HWv.out w' (hF7.up hu')) ((hOR7.up hu').tail HMat.out.1) hL00 HMat.out.rest (by omega) (by rw [List.length_drop, HMat.out.1]; omega) (HMat.out.few HSt.out hk7 0) (fun i => by rw [show (L.drop 1).getD i [] = L.getD (i + 1) [] from by rw [List.getD_eq_getElem?_getD, List.getD_eq_getElem?_getD, List.getElem?_drop, Nat.add_comm]]; exact HMat.out.few HSt.out hk7 (i + 1)) HSt.out.2.2 HSt.out.2.1
            unfold wideV at hf
            rw [hNX] at hf
            refine hf.mono fun _ _ h => ?_
            obtain ⟨z, rfl, hu, b, hb, hO⟩ := h
            exact ⟨hu, z, rfl, b, Nat.le_trans hu'.size hb, hO⟩)
          clear hNX
          go_wp2_with fail
          refine wp_region_upS (S := (fun wq => Up w7 wq ∧ Below w.heap.size w wq)) (req := (fun j => j != 9)) (by kernel_rfl) (fun _ _ h hu => ⟨(h.1).trans hu, below_up (h.2) hu⟩) ⟨(by first | exact Up.refl _ | assumption), (by repeat (first | assumption | (with_reducible apply Up.of) | (with_reducible exact Below.refl _ _) | (with_reducible exact Up.refl _) | ((with_reducible apply bl_setRow); (focus (first | exact Nat.le_refl _ | (simp; done) | (simp; omega) | omega))) | (with_reducible apply below_drewN) | (with_reducible apply Below.drew) | ((with_reducible apply bl_alloc); (focus (first | exact Nat.le_refl _ | (simp; done) | (simp; omega) | omega))) | ((with_reducible apply bl_setCell); (focus (first | exact Nat.le_refl _ | (simp; done) | (simp; omega) | omega))) | ((with_reducible apply up_tr); assumption)))⟩ (fun wS hSS => ?_)
          have ⟨hS1, hSB⟩ := hSS
          refine wpAnyU_pure (i := 0) (d := (some 32)) (v := ?_) rfl rfl (by kernel_rfl) (fun _ _ _ h => h) (fun _ _ h hu => ⟨(h.1).trans hu, below_up (h.2) hu⟩) (Or.inl ⟨by rfl, fun w' _ => yu_value ?_⟩) ?_
          rotate_left
          · (go_simp; (try exact rfl))
          try simp only [Act.put, List.setIfInBounds_toArray, List.set_cons_zero, List.set_cons_succ]
          refine wpAnyU_pure (i := 1) (d := (some 33)) (v := ?_) rfl rfl (by kernel_rfl) (fun _ _ _ h => h) (fun _ _ h hu => ⟨(h.1).trans hu, below_up (h.2) hu⟩) (Or.inl ⟨by rfl, fun w' _ => yu_value ?_⟩) ?_
          rotate_left
          · (go_simp; (try exact rfl))
          try simp only [Act.put, List.setIfInBounds_toArray, List.set_cons_zero, List.set_cons_succ]
          refine wpAnyU_pure (i := 2) (d := (some 34)) (v := _) rfl rfl (by kernel_rfl) (fun _ _ _ h => h) (fun _ _ h hu => ⟨(h.1).trans hu, below_up (h.2) hu⟩) (Or.inl ⟨by rfl, fun w' _ => yu_value (run_tail (by omega) rfl rfl)⟩) ?_
          try simp only [Act.put, List.setIfInBounds_toArray, List.set_cons_zero, List.set_cons_succ]
          refine wpAnyU_take (i := 3) (d := (some 35)) (v := _) rfl rfl (by kernel_rfl) (fun _ _ _ h => h) (fun _ _ h hu => ⟨(h.1).trans hu, below_up (h.2) hu⟩) hSS (Or.inl ⟨by rfl, fun w' hSw => yu_value (run_ld undW infoW _ rfl _ rfl (hRow7.up hSw.1))⟩) ?_
          try simp only [Act.put, List.setIfInBounds_toArray, List.set_cons_zero, List.set_cons_succ]
          refine wpAnyU_pure (i := 5) (d := (some 37)) (v := ?_) rfl rfl (by kernel_rfl) (fun _ _ _ h => h) (fun _ _ h hu => ⟨(h.1).trans hu, below_up (h.2) hu⟩) (Or.inl ⟨by rfl, fun w' _ => yu_value ?_⟩) ?_
          rotate_left
          · (go_simp; (try exact rfl))
          try simp only [Act.put, List.setIfInBounds_toArray, List.set_cons_zero, List.set_cons_succ]
          refine wpAnyU_pure (i := 6) (d := (some 38)) (v := ?_) rfl rfl (by kernel_rfl) (fun _ _ _ h => h) (fun _ _ h hu => ⟨(h.1).trans hu, below_up (h.2) hu⟩) (Or.inl ⟨by rfl, fun w' _ => yu_value ?_⟩) ?_
          rotate_left
          · (go_simp; (try exact rfl))
          try simp only [Act.put, List.setIfInBounds_toArray, List.set_cons_zero, List.set_cons_succ]
          refine wpAnyU_take (i := 7) (d := (some 39)) (v := _) rfl rfl (by kernel_rfl) (fun _ _ _ h => h) (fun _ _ h hu => ⟨(h.1).trans hu, below_up (h.2) hu⟩) hSS (Or.inl ⟨by rfl, fun w' hSw => yu_value (run_ldW rfl rfl (HRng.out _ (hF7.up hSw.1)))⟩) ?_
          try simp only [Act.put, List.setIfInBounds_toArray, List.set_cons_zero, List.set_cons_succ]
          refine wpAnyU_callE (i := 4) (d := (some 36)) rfl rfl (by kernel_rfl) (by rfl) (fun _ _ h hu => ⟨(h.1).trans hu, below_up (h.2) hu⟩) (fun w' => by go_simp) (fun w' hw' => (HFW.out w' (hS1.trans hw'))) fun vG wG hwG hRG => ?_
          try simp only [Act.put, List.setIfInBounds_toArray, List.set_cons_zero, List.set_cons_succ]
          obtain ⟨bN, hbN, hON⟩ := hRG
          obtain ⟨pN, cN, rfl⟩ := hON.slice
          refine wpAnyU_pure (i := 8) (d := (some 6)) (v := ?_) rfl rfl (by kernel_rfl) (fun _ _ _ h => h) (fun _ _ h hu => ⟨(h.1).trans hu, below_up (h.2) hu⟩) (Or.inl ⟨by rfl, fun w' _ => yu_value ?_⟩) ?_
          rotate_left
          · (go_simp; (try exact rfl))
          try simp only [Act.put, List.setIfInBounds_toArray, List.set_cons_zero, List.set_cons_succ]
          refine wpAnyU_one (i := 9) rfl (by kernel_rfl) (by rfl) fun wX hwX => ?_
          refine wp_st_rowN infoW rfl _ _ rfl _ rfl rfl ((hRow7.up ((hS1.trans hwG).trans hwX))) ?_
          refine ⟨fun h => by simp at h, ?_⟩
          try simp only [Act.put, List.setIfInBounds_toArray, List.set_cons_zero, List.set_cons_succ]
          refine wpAnyU_done (by kernel_rfl) (fun wF huE => ?_) _
          have hUG := (hS1.trans hwG).trans hwX
          have hltb := hRow7.lt
          have gRow := ((hRow7.up hUG).setRow (limb (enc m0))).up huE
          have gO := ((hON.up hwX).below (show bL < bN by omega) (cells 16 (limb (enc m0)))).up huE
          have gW := ((hO7.up hUG).below (Nat.lt_succ_self bL) (cells 16 (limb (enc m0)))).up huE
          have gU := Up.trans (below_setRow (hU7.trans hUG) hwbL (cells 16 (limb (enc m0)))) huE
          have gOb : ∀ g, (Value.slice p6 (done ++ [m0]).length c6).ownBlock = some g → g < bN := fun g h => by have := (World.ownsRow.lt hO7 g h).2; omega
          have gT : (done ++ [m0]) ++ mins s m0 (nxt q M) = T := by
            have h := HDone.out
            rw [HM0.out, if_pos hp] at h
            rw [List.append_assoc]
            exact h
          have gM : Mat s NX (nxt q M) := HNX.out ▸ HMat.out.next
          have gS : St m0 (k + 1) (nxt q M) := by
            have h := HSt.out.next hk7 (by rw [HM0.out]; omega)
            rw [HM0.out] at h
            exact h
          have gL : (done ++ [m0]).length = done.length + 1 := by rw [List.length_append, List.length_singleton]
          rw [gL] at gW gOb
          clear hS1 hSB hSS hwG hwX huE hON hUG
          go_wp2_with fail
          go_roundg s
          case measure => omega
          case rel => exact ⟨k + 1, s, m0, nxt q M, NX, done ++ [m0], bN, Nat.le_refl _, by omega, gM, gS, gT, gO, by omega, gW, gOb, gRow, gU, by rw [gL]; omega⟩
        · have ds : decide (sgn m0 ≤ 0) = true := by unfold sgn; rw [decide_eq_true]; split <;> (try split) <;> omega
          go_wp2_with (first
            | ((with_reducible apply ldW_P); exact rfl; exact rfl; (first | exact HRng.out _ hBF | exact HRng.out _ hBF6))
            | ((with_reducible apply bsW_P); exact rfl)
            | ((with_reducible apply appW (l := done) (m := [m0])); exact rfl; exact rfl; exact OwnW.up (Up.alloc _ _) hOW; exact one_range rfl; (focus (simp; omega)); exact hDl; (focus (simp; done)); rintro v6 w6 hO6 hg6 hb6
               obtain ⟨p6, c6, rfl⟩ := hO6.slice
               have hBF6 := (hBF.up (Up.alloc _ _)).grown hg6 hne
               have hu6 : Up w w6 := Below.trans (hu.trans (Up.alloc _ _)) (Below.mono hb6 (by omega)))
            | (go_at_call 62; (with_reducible refine (HSg.out _).mono ?_); rintro r w7 ⟨rfl, hu7⟩))
          go_ret2
          have hT : done ++ [m0] = T := by
            have h := HDone.out
            rw [HM0.out, if_neg (by omega)] at h
            exact h
          have hW := (hO6.up hu7).wv
          rw [List.length_append, List.length_singleton, hT] at hW
          exact ⟨_, _, rfl, hu6.trans hu7, hW, .inl ⟨rfl, rfl⟩⟩
end Go.Proofs.YtdcpoamjmoceiaaDoor
/-
  elim.added, elim.leading: a first row that doesn't begin with nought.
-/
namespace Go.Proofs.YtdcpoamjmoceiaaDoor
open Go Go.RowKit
set_option maxRecDepth 100000
set_option maxRecDepth 100000

theorem full_range {w : World} {g : Nat} {C : Array Value} {l : List Int} (hB : Blk w g 64 C) (ht : C.toList.take (l.length * 16) = wcs l) : w.rangeAt g 0 (wcs l) := by
  intro j v hv
  have hj : j < l.length * 16 := by have := (List.getElem?_eq_some_iff.1 hv).1; rw [wcs_len] at this; exact this
  rw [Nat.zero_add]
  refine hB.cell _ ?_
  rw [← ht, List.getElem?_take_of_lt hj] at hv
  rw [← Array.getElem?_toList]
  exact hv
def sumR (A B : List Int) : List Int := mk A.length fun i => zth A i + zth B i
set_option maxHeartbeats 8000000 in
theorem added_any {va vb : Value} {A B : List Int} {w : World} (hA : Wv w va A) (hB : Wv w vb B) (hl : B.length = A.length) (h0 : 0 < A.length) (h8 : A.length ≤ 9) (bA : Few A) (bB : Few B) :
    Calls Tryd.prog 77 #[va, vb] w fun r w' => ∃ z, r = .returned z ∧ Up w w' ∧ ∃ b, w.heap.size ≤ b ∧ OwnW w' b z (sumR A B) := by
  obtain ⟨gA, cA, CA, rfl, -, hBA, htA⟩ := hA.open h0
  obtain ⟨gB, cB, CB, rfl, -, hBB, htB⟩ := hB.open (by omega)
  have HRA := hid (full_range hBA htA)
  have htB' := htB
  have HRB := hid (fun i (hi : i < B.length) w' (hB : Blk w' gB 64 CB) => wv_range hB htB' hi)
  have hsl : (sumR A B).length = A.length := mk_len _ _
  have HlL := hid hsl
  have HAt := hid (fun i (hi : i < A.length) => show zth (sumR A B) i = zth A i + zth B i from mk_at hi)
  rw [hl]
  obtain ⟨S, hS⟩ : ∃ y, sumR A B = y := ⟨_, rfl⟩
  rw [hS] at HlL HAt ⊢
  clear hA hB htA htB hBA htB' hS hsl
  go_enter Tryd.func77, Tryd.ntmps77
  go_wp2_with (first
    | ((with_reducible apply appW (l := []) (m := A)); exact rfl; exact rfl; exact OwnW.nil _ w.heap.size; exact HRA.out; exact Nat.le_refl _; (focus (simp; done)); (focus omega); rintro v1 w1 hO1 - hb1; rw [List.nil_append] at hO1; obtain ⟨pL, cL, rfl⟩ := hO1.slice))
  have hU1 : Up w w1 := hb1
  go_loopg [11] A.length (fun g ti wr => ∃ i : Nat, i ≤ A.length ∧ A.length - i ≤ g ∧ ti = .int .i64 (i : Nat) ∧ OwnW wr w.heap.size (.slice pL A.length cL) (mixed S A i) ∧ Up w wr)
  case atStart => exact ⟨0, Nat.zero_le _, by omega, rfl, by rw [mixed_zero]; exact hO1, hU1⟩
  case round =>
    clear hO1 hU1 hb1
    obtain ⟨i, hi, hig, rfl, hO, hu⟩ := hrel
    by_cases hlt : i < A.length
    · have hml := mixed_len HlL.out i
      obtain ⟨gL, cL', CL, hv, hbL, hBL, -, -, -, htL⟩ := hO.open (by omega)
      injection hv with x1 x2 x3
      subst x1 x3
      have hmi : zth (mixed S A i) i = zth A i := mixed_at HlL.out hlt
      have HRL := hid (fun w' (hB : Blk w' gL 64 CL) => hmi ▸ wv_range hB htL (by omega))
      have HRi := hid (HRB.out i (by omega))
      have b3 : (zth A i + zth B i).natAbs < bp 6 := by
        have e : bp 6 = bp 5 * 18446744073709551616 := bp_succ 5
        have h1 := bA i
        have h2 := bB i
        have h3 := Int.natAbs_add_le (zth A i) (zth B i)
        omega
      have HS := hid (fun w => add_z (few_inR (by omega) (bA i)) (few_inR (by omega) (bB i)) w)
      rw [opt_yes (few_inR (by omega) b3), ← HAt.out i hlt] at HS
      have HSet := hid (mixed_set HlL.out hlt)
      have e1 : IntKind.i64.wrap ((i : Int) + 1) = (i : Int) + 1 := IntWalk.i64_in _ (by omega)
      unfold wideV at HS
      clear b3 hmi htL hml x2
      have hBBr := hBB.up hu
      generalize zth A i = a at *
      generalize zth B i = b at *
      go_wp2_with fail
      refine wp_region_upS (S := (fun wq => Up wr wq ∧ Below w.heap.size w wq)) (req := (fun j => j != 15)) (by kernel_rfl) (fun _ _ h hu => ⟨(h.1).trans hu, below_up (h.2) hu⟩) ⟨(by first | exact Up.refl _ | assumption), (by repeat (first | assumption | (with_reducible apply Up.of) | (with_reducible exact Below.refl _ _) | (with_reducible exact Up.refl _) | ((with_reducible apply bl_setRow); (focus (first | exact Nat.le_refl _ | (simp; done) | (simp; omega) | omega))) | (with_reducible apply below_drewN) | (with_reducible apply Below.drew) | ((with_reducible apply bl_alloc); (focus (first | exact Nat.le_refl _ | (simp; done) | (simp; omega) | omega))) | ((with_reducible apply bl_setCell); (focus (first | exact Nat.le_refl _ | (simp; done) | (simp; omega) | omega))) | ((with_reducible apply up_tr); assumption)))⟩ (fun wS hSS => ?_)
      have ⟨hS1, hSB⟩ := hSS
      refine wpAnyU_pure (i := 0) (d := (some 15)) (v := ?_) rfl rfl (by kernel_rfl) (fun _ _ _ h => h) (fun _ _ h hu => ⟨(h.1).trans hu, below_up (h.2) hu⟩) (Or.inl ⟨by rfl, fun w' _ => yu_value ?_⟩) ?_
      rotate_left
      · (go_simp; (try exact rfl))
      try simp only [Act.put, List.setIfInBounds_toArray, List.set_cons_zero, List.set_cons_succ]
      refine wpAnyU_pure (i := 1) (d := (some 16)) (v := ?_) rfl rfl (by kernel_rfl) (fun _ _ _ h => h) (fun _ _ h hu => ⟨(h.1).trans hu, below_up (h.2) hu⟩) (Or.inl ⟨by rfl, fun w' _ => yu_value ?_⟩) ?_
      rotate_left
      · (go_simp; (try exact rfl))
      try simp only [Act.put, List.setIfInBounds_toArray, List.set_cons_zero, List.set_cons_succ]
      refine wpAnyU_pure (i := 2) (d := (some 17)) (v := ?_) rfl rfl (by kernel_rfl) (fun _ _ _ h => h) (fun _ _ h hu => ⟨(h.1).trans hu, below_up (h.2) hu⟩) (Or.inl ⟨by rfl, fun w' _ => yu_value ?_⟩) ?_
      rotate_left
      · (go_simp; (try exact rfl))
      try simp only [Act.put, List.setIfInBounds_toArray, List.set_cons_zero, List.set_cons_succ]
      refine wpAnyU_pure (i := 3) (d := (some 18)) (v := ?_) rfl rfl (by kernel_rfl) (fun _ _ _ h => h) (fun _ _ h hu => ⟨(h.1).trans hu, below_up (h.2) hu⟩) (Or.inl ⟨by rfl, fun w' _ => yu_value ?_⟩) ?_
      rotate_left
      · (go_simp; (try exact rfl))
      try simp only [Act.put, List.setIfInBounds_toArray, List.set_cons_zero, List.set_cons_succ]
      refine wpAnyU_pure (i := 4) (d := (some 19)) (v := ?_) rfl rfl (by kernel_rfl) (fun _ _ _ h => h) (fun _ _ h hu => ⟨(h.1).trans hu, below_up (h.2) hu⟩) (Or.inl ⟨by rfl, fun w' _ => yu_value ?_⟩) ?_
      rotate_left
      · (go_simp; (try exact rfl))
      try simp only [Act.put, List.setIfInBounds_toArray, List.set_cons_zero, List.set_cons_succ]
      refine wpAnyU_take (i := 5) (d := (some 20)) (v := _) rfl rfl (by kernel_rfl) (fun _ _ _ h => h) (fun _ _ h hu => ⟨(h.1).trans hu, below_up (h.2) hu⟩) hSS (Or.inl ⟨by rfl, fun w' hSw => yu_value (run_ldW rfl rfl (HRL.out _ (hBL.up hSw.1)))⟩) ?_
      try simp only [Act.put, List.setIfInBounds_toArray, List.set_cons_zero, List.set_cons_succ]
      refine wpAnyU_pure (i := 6) (d := (some 21)) (v := ?_) rfl rfl (by kernel_rfl) (fun _ _ _ h => h) (fun _ _ h hu => ⟨(h.1).trans hu, below_up (h.2) hu⟩) (Or.inl ⟨by rfl, fun w' _ => yu_value ?_⟩) ?_
      rotate_left
      · (go_simp; (try exact rfl))
      try simp only [Act.put, List.setIfInBounds_toArray, List.set_cons_zero, List.set_cons_succ]
      refine wpAnyU_pure (i := 7) (d := (some 22)) (v := ?_) rfl rfl (by kernel_rfl) (fun _ _ _ h => h) (fun _ _ h hu => ⟨(h.1).trans hu, below_up (h.2) hu⟩) (Or.inl ⟨by rfl, fun w' _ => yu_value ?_⟩) ?_
      rotate_left
      · (go_simp; (try exact rfl))
      try simp only [Act.put, List.setIfInBounds_toArray, List.set_cons_zero, List.set_cons_succ]
      refine wpAnyU_pure (i := 8) (d := (some 23)) (v := ?_) rfl rfl (by kernel_rfl) (fun _ _ _ h => h) (fun _ _ h hu => ⟨(h.1).trans hu, below_up (h.2) hu⟩) (Or.inl ⟨by rfl, fun w' _ => yu_value ?_⟩) ?_
      rotate_left
      · (go_simp; (try exact rfl))
      try simp only [Act.put, List.setIfInBounds_toArray, List.set_cons_zero, List.set_cons_succ]
      refine wpAnyU_take (i := 9) (d := (some 24)) (v := _) rfl rfl (by kernel_rfl) (fun _ _ _ h => h) (fun _ _ h hu => ⟨(h.1).trans hu, below_up (h.2) hu⟩) hSS (Or.inl ⟨by rfl, fun w' hSw => yu_value (run_ldW rfl rfl (HRi.out _ (hBBr.up hSw.1)))⟩) ?_
      try simp only [Act.put, List.setIfInBounds_toArray, List.set_cons_zero, List.set_cons_succ]
      refine wpAnyU_take (i := 10) (d := (some 25)) (v := _) rfl rfl (by kernel_rfl) (fun _ _ _ h => h) (fun _ _ h hu => ⟨(h.1).trans hu, below_up (h.2) hu⟩) hSS (Or.inl ⟨by rfl, fun w' hSw => yu_call ?_ (HS.out _)⟩) ?_
      · go_simp
      try simp only [Act.put, List.setIfInBounds_toArray, List.set_cons_zero, List.set_cons_succ]
      refine wpAnyU_pure (i := 11) (d := (some 14)) (v := ?_) rfl rfl (by kernel_rfl) (fun _ _ _ h => h) (fun _ _ h hu => ⟨(h.1).trans hu, below_up (h.2) hu⟩) (Or.inl ⟨by rfl, fun w' _ => yu_value ?_⟩) ?_
      rotate_left
      · (go_simp; (try exact rfl))
      try simp only [Act.put, List.setIfInBounds_toArray, List.set_cons_zero, List.set_cons_succ]
      refine wpAnyU_pure (i := 12) (d := (some 26)) (v := ?_) rfl rfl (by kernel_rfl) (fun _ _ _ h => h) (fun _ _ h hu => ⟨(h.1).trans hu, below_up (h.2) hu⟩) (Or.inl ⟨by rfl, fun w' _ => yu_value ?_⟩) ?_
      rotate_left
      · (go_simp; (try exact rfl))
      try simp only [Act.put, List.setIfInBounds_toArray, List.set_cons_zero, List.set_cons_succ]
      refine wpAnyU_pure (i := 13) (d := (some 27)) (v := ?_) rfl rfl (by kernel_rfl) (fun _ _ _ h => h) (fun _ _ h hu => ⟨(h.1).trans hu, below_up (h.2) hu⟩) (Or.inl ⟨by rfl, fun w' _ => yu_value ?_⟩) ?_
      rotate_left
      · (go_simp; (try exact rfl))
      try simp only [Act.put, List.setIfInBounds_toArray, List.set_cons_zero, List.set_cons_succ]
      refine wpAnyU_pure (i := 14) (d := (some 28)) (v := ?_) rfl rfl (by kernel_rfl) (fun _ _ _ h => h) (fun _ _ h hu => ⟨(h.1).trans hu, below_up (h.2) hu⟩) (Or.inl ⟨by rfl, fun w' _ => yu_value ?_⟩) ?_
      rotate_left
      · (go_simp; (try exact rfl))
      try simp only [Act.put, List.setIfInBounds_toArray, List.set_cons_zero, List.set_cons_succ]
      refine wpAnyU_one (i := 15) rfl (by kernel_rfl) (by rfl) fun wX hwX => ?_
      have hset := ((hO.up hS1).up hwX).set ((hBL.up hS1).up hwX) (i := i) (by rw [mixed_len HlL.out]; exact hlt) (zth S i)
      rw [HSet.out] at hset
      refine wp_stW (z := zth S i) _ _ rfl rfl rfl ((hBL.up hS1).up hwX) hset.2 ?_
      refine ⟨fun h => by simp at h, ?_⟩
      try simp only [Act.put, List.setIfInBounds_toArray]
      refine wpAnyU_done (by kernel_rfl) (fun wF huE => ?_) _
      have gO := hset.1.up huE
      have gU := Up.trans (below_setRow ((hu.trans hS1).trans hwX) (show w.heap.size ≤ gL by omega) (splW CL (i * 16) (zth S i))) huE
      clear hset hS1 hSB hSS hwX huE
      go_wp2_with fail
      go_roundg (A.length - (i + 1))
      case measure => omega
      case rel => exact ⟨i + 1, hlt, Nat.le_refl _, rfl, gO, gU⟩
    · obtain rfl : i = A.length := by omega
      rw [← HlL.out, mixed_all HlL.out] at hO
      go_wp2_with fail
      go_ret
      rw [HlL.out] at hO
      exact ⟨_, rfl, hu, _, Nat.le_refl _, hO⟩
end Go.Proofs.YtdcpoamjmoceiaaDoor
/-
  elim.leading: a first row that doesn't begin with nought, the determinant as it was.
-/
namespace Go.Proofs.YtdcpoamjmoceiaaDoor
open Go Go.RowKit
set_option maxRecDepth 100000
set_option maxRecDepth 100000

theorem tail_P {ops : Array Oper} {rest : List Oper} {Q : Exit → Act → World → Prop} {a : Act} {w : World} {d : Option Tmp} {s : Tmp} {ty : TypeId} {pos : String} {af : Array Edge} {gd : Option (Nat × Bool)} {g n c2 : Nat}
    (hw : Region.wanted { dst := d, op := .slice 96 (.tmp s) (some (.const (.int .i64 1))) none none, type := ty, pos := pos, after := af, guard := gd } (yielded ops a.tmps) = true) (hx : a.eval (.tmp s) = .slice (some ⟨g, 0, none⟩) (n + 1) (c2 + 1)) (hc : n ≤ c2)
    (h : ∀ pT, tailV g n c2 = .slice pT n c2 → wpList Tryd.prog ops Q rest (a.put d (.slice pT n c2)) w) :
    wpList Tryd.prog ops Q ({ dst := d, op := .slice 96 (.tmp s) (some (.const (.int .i64 1))) none none, type := ty, pos := pos, after := af, guard := gd } :: rest) a w := by
  refine wpList_run hw (run_tail hc hx rfl) ?_
  exact h _ rfl
/-- A first row F, and the matrix M' that it leads. -/
def Lead (s : Nat) (M : Nat → Nat → Int) (F : List Int) (M' : Nat → Nat → Int) : Prop :=
  F.length = s + 1 ∧ (∀ j, j < s + 1 → zth F j = M' 0 j) ∧ M' 0 0 ≠ 0 ∧ (M' = M ∨ ∃ i, i ≠ 0 ∧ i < s + 1 ∧ M' = add0 i M)
theorem sgn_zero (z : Int) : (sgn z != 0) = decide (z ≠ 0) := by
  unfold sgn
  split
  · rw [decide_eq_true (by omega)]; rfl
  · split
    · rename_i h; rw [decide_eq_false (by omega)]; rfl
    · rename_i h; rw [decide_eq_true h]; rfl
set_option maxHeartbeats 8000000 in
theorem leading_any {vr : Value} {L : List (List Int)} {b s k : Nat} {q : Int} {M : Nat → Nat → Int} {w : World} (hO : OwnR w b vr L) (hMat : Mat (s + 1) L M) (hSt : St q k M) (hk7 : k ≤ 7) (hs8 : s + 1 ≤ 8) :
    Calls Tryd.prog 59 #[vr] w fun r w' => Up w w' ∧
      ((∃ z F M', r = .returned (.tuple #[z, .bool true]) ∧ Wv w' z F ∧ Lead s M F M') ∨ (r = .returned (.tuple #[.slice none 0 0, .bool false]) ∧ ∀ i, i < s + 1 → M i 0 = 0)) := by
  obtain ⟨gR, cR, CR, rfl, hgR, hcR, hBR, hE⟩ := hO.open (by rw [hMat.1]; omega)
  rw [hMat.1] at hO hcR ⊢
  obtain ⟨c2, rfl⟩ : ∃ c2, cR = c2 + 1 := ⟨cR - 1, by omega⟩
  have hT := hO.tail hMat.1
  obtain ⟨sF, hsF, hWF, -⟩ := hE 0 (by rw [hMat.1]; omega)
  obtain ⟨hLF, hLFe⟩ := hMat.2 0 (by omega)
  obtain ⟨gF, cF, CF, hvF, hcF, hBF, htF⟩ := hWF.open (by rw [hLF]; omega)
  have HWv := hid (fun w' (hB : Blk w' gF 64 CF) => show Wv w' (.slice (some ⟨gF, 0, none⟩) (s + 1) cF) (L.getD 0 []) from .inr ⟨gF, cF, CF, by rw [hLF], hcF, hB, htF⟩)
  subst hvF
  rw [hLF] at hsF
  have HRng : Hid (∀ w', Blk w' gF 64 CF → w'.rangeAt gF 0 (wc (M 0 0))) := hid (fun w' hB => by
    have h := wv_range hB htF (i := 0) (by rw [hLF]; omega)
    rw [hLFe 0 (by omega), Nat.zero_mul] at h
    exact h)
  have hcx := hBR.cell 0 hsF
  have HSg := hid (fun i w => sign_z (few_inR (k := 5) (by omega) (hSt.entry hk7 i 0)) w)
  have HT := hid hT
  have HE := hid hE
  have HMat := hid hMat
  have HFew := hid (fun i => hMat.few hSt hk7 i)
  have hLe := hLFe
  have HLe := hid hLe
  have HLF := hid hLF
  unfold wideV at HSg
  clear hO hT hE hMat hSt hWF hLF hLFe htF hsF hLe hgR
  by_cases hp : M 0 0 = 0
  · have ds : (sgn (M 0 0) != 0) = false := by rw [sgn_zero]; exact decide_eq_false (by simpa using hp)
    obtain ⟨m0, hm0⟩ : ∃ y, M 0 0 = y := ⟨_, rfl⟩
    have HSg0 := hid (HSg.out 0)
    rw [hm0] at HRng HSg0 ds
    have HP := hid (hm0 ▸ hp : m0 = 0)
    have HM0 := hid hm0
    clear hm0 hp
    go_enter Tryd.func59, Tryd.ntmps59
    go_wp2_with (first
      | ((with_reducible apply ldW_P); exact rfl; exact rfl; exact HRng.out _ hBF)
      | ((with_reducible apply tail_P (n := s) (c2 := c2)); exact rfl; exact rfl; (focus omega); rintro pT hpT)
      | (go_at_call 62; (with_reducible refine (HSg0.out _).mono ?_); rintro r w1 ⟨rfl, hu1⟩))
    have HpT := hid hpT
    clear hpT
    go_loopg [19] s (fun g ti wr => ∃ j : Nat, j ≤ s ∧ s - j ≤ g ∧ ti = .int .i64 (j : Nat) ∧ (∀ i, i < j → M (i + 1) 0 = 0) ∧ Up w wr)
    case atStart => exact ⟨0, Nat.zero_le _, by omega, rfl, fun i hi => absurd hi (Nat.not_lt_zero _), hu1⟩
    case round =>
      clear hu1
      obtain ⟨j, hj, hjg, rfl, hz, hu⟩ := hrel
      by_cases hlt : j < s
      · have hTw := HT.out
        rw [HpT.out] at hTw
        have hdl : (L.drop 1).length = s := by rw [List.length_drop, HMat.out.1]; omega
        obtain ⟨g1, o1, c1, C1, hv1, -, hB1, hE1⟩ := hTw.open (by omega)
        injection hv1 with y1 y2 y3
        subst y1 y3
        obtain ⟨sE, hsE, hWE⟩ := hE1 j (by omega)
        have eD : (L.drop 1).getD j [] = L.getD (j + 1) [] := by rw [List.getD_eq_getElem?_getD, List.getD_eq_getElem?_getD, List.getElem?_drop, Nat.add_comm]
        rw [eD] at hWE
        obtain ⟨hLE, hLEe⟩ := HMat.out.2 (j + 1) (by omega)
        obtain ⟨gE, cE, CE, hvE, hcE, hBE, htE⟩ := hWE.open (by rw [hLE]; omega)
        have HWE := hid (fun w' (hB : Blk w' gE 64 CE) => show Wv w' (.slice (some ⟨gE, 0, none⟩) (s + 1) cE) (L.getD (j + 1) []) from .inr ⟨gE, cE, CE, by rw [hLE], hcE, hB, htE⟩)
        subst hvE
        rw [hLE] at hsE
        have HRE : Hid (∀ w', Blk w' gE 64 CE → w'.rangeAt gE 0 (wc (M (j + 1) 0))) := hid (fun w' hB => by
          have h := wv_range hB htE (i := 0) (by rw [hLE]; omega)
          rw [hLEe 0 (by omega), Nat.zero_mul] at h
          exact h)
        have hcy := (hB1.up hu).cell _ hsE
        have HSgj := hid (HSg.out (j + 1))
        have hBEr := hBE.up hu
        have HLEe := hid hLEe
        have HLE := hid hLE
        have e1 : IntKind.i64.wrap ((j : Int) + 1) = (j : Int) + 1 := IntWalk.i64_in _ (by omega)
        have HZ := hid hz
        clear hTw hE1 hsE hWE hLE hLEe htE eD hB1 hz y2 hcE
        obtain ⟨mj, hmj⟩ : ∃ y, M (j + 1) 0 = y := ⟨_, rfl⟩
        rw [hmj] at HRE HSgj
        have HMj := hid hmj
        clear hmj
        by_cases hpj : mj = 0
        · have dj : (sgn mj != 0) = false := by rw [sgn_zero]; exact decide_eq_false (by simpa using hpj)
          have hpj9 := hid hpj
          clear hpj
          go_wp2_with (first
            | ((with_reducible apply ldW_P); exact rfl; exact rfl; exact HRE.out _ hBEr)
            | (go_at_call 62; (with_reducible refine (HSgj.out _).mono ?_); rintro r w2 ⟨rfl, hu2⟩))
          go_roundg (s - (j + 1))
          case measure => omega
          case rel => exact ⟨j + 1, hlt, Nat.le_refl _, rfl, fun i hi => by
            rcases Nat.lt_succ_iff_lt_or_eq.1 hi with h | h
            · exact HZ.out i h
            · rw [h, HMj.out]; exact hpj9.out, hu.trans hu2⟩
        · have dj : (sgn mj != 0) = true := by rw [sgn_zero]; exact decide_eq_true hpj
          have HAD := hid (fun w' (hu' : Up wr w') => added_any (HWv.out w' (hBF.up (hu.trans hu'))) (HWE.out w' (hBEr.up hu')) (by rw [HLE.out, HLF.out]) (by rw [HLF.out]; omega) (by rw [HLF.out]; omega) (HFew.out 0) (HFew.out (j + 1)))
          have hpj9 := hid hpj
          clear hpj
          go_wp2_with (first
            | ((with_reducible apply ldW_P); exact rfl; exact rfl; exact HRE.out _ hBEr)
            | (go_at_call 62; (with_reducible refine (HSgj.out _).mono ?_); rintro r w2 ⟨rfl, hu2⟩)
            | (go_at_call 77; (with_reducible refine (HAD.out _ hu2).mono ?_); rintro r w3 ⟨z3, rfl, hu3, b3, hb3, hO3⟩))
          go_ret2
          have hat : ∀ c, c < s + 1 → zth (sumR (L.getD 0 []) (L.getD (j + 1) [])) c = add0 (j + 1) M 0 c := fun c hc => by
            unfold sumR
            rw [mk_at (by rw [HLF.out]; exact hc), HLe.out c hc, HLEe.out c hc]
            unfold add0 updR
            rw [if_pos rfl]
          refine ⟨(hu.trans hu2).trans hu3, .inl ⟨_, _, add0 (j + 1) M, rfl, hO3.wv, by show (mk _ _).length = _; rw [mk_len, HLF.out], hat, ?_, .inr ⟨j + 1, by omega, by omega, rfl⟩⟩⟩
          rw [← hat 0 (by omega)]
          unfold sumR
          rw [mk_at (by rw [HLF.out]; omega), HLe.out 0 (by omega), HLEe.out 0 (by omega), HM0.out, HMj.out, HP.out]
          have := hpj9.out
          omega
      · obtain rfl : j = s := by omega
        have HZ := hid hz
        clear hz
        go_wp2_with fail
        go_ret2
        refine ⟨hu, .inr ⟨rfl, fun i hi => ?_⟩⟩
        rcases i with _ | i
        · rw [HM0.out, HP.out]
        · exact HZ.out i (by omega)
  · have ds : (sgn (M 0 0) != 0) = true := by rw [sgn_zero]; exact decide_eq_true hp
    have HSg0 := hid (HSg.out 0)
    have HP := hid hp
    clear hp
    go_enter Tryd.func59, Tryd.ntmps59
    go_wp2_with (first
      | ((with_reducible apply ldW_P); exact rfl; exact rfl; exact HRng.out _ hBF)
      | (go_at_call 62; (with_reducible refine (HSg0.out _).mono ?_); rintro r w1 ⟨rfl, hu1⟩))
    go_ret2
    exact ⟨hu1, .inl ⟨_, _, M, rfl, HWv.out _ (hBF.up hu1), HLF.out, HLe.out, HP.out, .inl rfl⟩⟩
end Go.Proofs.YtdcpoamjmoceiaaDoor
/-
  elim.Det.
-/
namespace Go.Proofs.YtdcpoamjmoceiaaDoor
open Go Go.RowKit
set_option maxRecDepth 100000
set_option maxRecDepth 100000

theorem bb2_bp {k : Nat} (h : k ≤ 7) : 2 * bb k 0 < bp 5 := by
  rw [bp5_is]
  rcases k with _ | _ | _ | _ | _ | _ | _ | _ | k
  · decide +kernel
  · decide +kernel
  · decide +kernel
  · decide +kernel
  · decide +kernel
  · decide +kernel
  · decide +kernel
  · decide +kernel
  · omega
theorem add0_zero (i : Nat) (M : Nat → Nat → Int) (r c : Nat) : add0 i M (r + 1) c = M (r + 1) c := by unfold add0 updR; rw [if_neg (by omega)]
theorem Lead.good {s k : Nat} {q : Int} {M M' : Nat → Nat → Int} {F : List Int} (h : Lead s M F M') (hs : St q k M) : Good q (fun r => 2 * bb k r) M' := by
  rcases h.2.2.2 with rfl | ⟨i, _, _, rfl⟩
  · exact hs.1.mono fun r => by omega
  · exact hs.1.add0 i
theorem Lead.next {s k : Nat} {q : Int} {M M' : Nat → Nat → Int} {F : List Int} (h : Lead s M F M') (hs : St q k M) (hk : k ≤ 7) : St (M' 0 0) (k + 1) (nxt q M') :=
  ⟨((h.good hs).next hs.2.1 h.2.2.1).mono fun r => by rw [bb_succ]; exact Nat.le_refl _, h.2.2.1, Nat.lt_of_le_of_lt ((h.good hs).entry 0 0) (bb2_bp hk)⟩
theorem Lead.few {s k : Nat} {q : Int} {M M' : Nat → Nat → Int} {F : List Int} (h : Lead s M F M') (hs : St q k M) (hk : k ≤ 7) : Few F := fun j => by
  by_cases hj : j < s + 1
  · rw [h.2.1 j hj]; exact Nat.lt_of_le_of_lt ((h.good hs).entry 0 j) (bb2_bp hk)
  · rw [zth_far (by rw [h.1]; omega)]; exact bp_pos 5
theorem Lead.full {s : Nat} {q D : Int} {M M' : Nat → Nat → Int} {F : List Int} (h : Lead s M F M') {k : Nat} (hs : St q k M) (hf : Full q (s + 1) M D) : Full (M' 0 0) s (nxt q M') D := by
  refine Full.next (h.good hs) hs.2.1 h.2.2.1 ?_
  rcases h.2.2.2 with rfl | ⟨i, h0, h1, rfl⟩
  · exact hf
  · exact hf.add0 (by omega) h0 h1
theorem Lead.mat {s : Nat} {q : Int} {M M' : Nat → Nat → Int} {F : List Int} {L : List (List Int)} (h : Lead s M F M') (hm : Mat (s + 1) L M) : Mat s ((L.drop 1).map fun R => tk F R q s) (nxt q M') := by
  have hl : (L.drop 1).length = s := by rw [List.length_drop, hm.1]; omega
  refine ⟨by rw [List.length_map, hl], fun i hi => ?_⟩
  have e : (((L.drop 1).map fun R => tk F R q s).getD i []) = tk F (L.getD (i + 1) []) q s := by
    rw [List.getD_eq_getElem?_getD, List.getElem?_map, List.getElem?_eq_getElem (by omega), List.getElem_drop]
    have : L.getD (i + 1) [] = L[1 + i]'(by rw [hm.1]; omega) := by
      rw [List.getD_eq_getElem?_getD, Nat.add_comm, List.getElem?_eq_getElem (by rw [hm.1]; omega)]
      rfl
    rw [this]
    rfl
  rw [e]
  have hr : ∀ r c, M (r + 1) c = M' (r + 1) c := fun r c => by
    rcases h.2.2.2 with rfl | ⟨i, _, _, rfl⟩
    · rfl
    · rw [add0_zero]
  refine ⟨mk_len _ _, fun j hj => ?_⟩
  unfold tk
  rw [mk_at hj, h.2.1 0 (by omega), h.2.1 (j + 1) (by omega), (hm.2 (i + 1) (by omega)).2 0 (by omega), (hm.2 (i + 1) (by omega)).2 (j + 1) (by omega), hr, hr]
  rfl
theorem ErrsE.setRow {w : World} {g : Nat} {C D : Array Value} {u : Value} {e : Int} (h : ErrsE w u e) (hB : Blk w g 64 C) : ErrsE (w.setRow g D) u e := by
  rcases h with h | ⟨h1, t, x, rfl, h2⟩
  · exact .inl h
  · refine .inr ⟨h1, t, x, rfl, ?_⟩
    obtain ⟨b, v, e1, e2, e3⟩ := h2
    refine ⟨b, v, e1, e2.row_other _ ?_, e3⟩
    rintro rfl
    unfold Blk at e2 hB
    rw [hB] at e2
    simp at e2
def detC (N : Int) (l : List Int) : Int := if rt N l then 0 else 23
def detV (N : Int) (l : List Int) : Int := if rt N l then det N.toNat (AM N.toNat l) else 0
set_option maxHeartbeats 8000000 in
theorem det_any {v : Value} {N : Int} {l : List Int} {w : World} (hm : Sm w v N l) :
    Calls Tryd.prog 30 #[v] w fun r w' => ∃ u, r = .returned (.tuple #[.agg (cells 16 (limb (enc (detV N l)))), u]) ∧ Up w w' ∧ ErrsE w' u (detC N l) := by
  have HR := hid (fun w' (hu : Up w w') => sright_any (hm.up hu))
  have HWR := hid (fun w => ewrong_any 23 (by decide) w)
  have HSm := hid hm
  obtain ⟨s, rfl, ⟨p, cap, rfl, -, -⟩, -, -, -⟩ := hm
  obtain ⟨W0, hW0⟩ : ∃ W0, (w.alloc (.cells #[.int .i64 N, .slice p l.length cap] 24)).alloc (.cells (cells 16 (fun _ => 0)) 64) = W0 := ⟨_, rfl⟩
  have hB : Blk W0 w.heap.size 24 #[.int .i64 N, .slice p l.length cap] := by rw [← hW0]; exact (Blk.new _ _ rfl).old _
  have hQ : Row W0 (w.heap.size + 1) 64 16 (fun _ => 0) := by rw [← hW0]; exact row_newc _ _ _ (by simp)
  have hU : Up w W0 := by rw [← hW0]; exact (Up.alloc _ _).trans (Up.alloc _ _)
  rw [← zeros16] at hW0
  cases hR : rt N l with
  | false =>
    have e : detC N l = 23 := by unfold detC; rw [hR]; rfl
    have e2 : detV N l = 0 := by unfold detV; rw [hR]; rfl
    rw [e, e2, ← zero_limb]
    rw [hR] at HR
    clear e e2 hR
    go_enter Tryd.func30, Tryd.ntmps30
    go_wp2_with (first
      | ((with_reducible apply ldM_P); exact rfl; exact rfl; exact hB; exact rfl)
      | (go_at_call 10; (with_reducible refine (HR.out _ hU).mono ?_); rintro r w1 ⟨rfl, hu1⟩; have hQ1 := hQ.up hu1)
      | (go_at_call 57; (with_reducible refine (HWR.out _).mono ?_); rintro r w2 ⟨u2, rfl, hu2, h2⟩; have hQ2 := hQ1.up hu2)
      | ((with_reducible apply st_rowP infoW); exact rfl; exact rfl; focus (repeat (first | assumption | ((with_reducible apply row_newc); (focus (first | rfl | (simp; done)))) | ((with_reducible apply row_newz); (focus (first | rfl | (simp; done)))) | (with_reducible apply row_same) | ((with_reducible apply row_else); (focus (first | (simp; done) | (simp; omega) | omega))) | (with_reducible apply row_alloc) | (with_reducible apply row_drew) | (with_reducible apply row_drewN) | ((with_reducible apply row_up); assumption)))) | ((with_reducible apply st_rowZ infoW); exact rfl; exact rfl; focus (repeat (first | assumption | ((with_reducible apply row_newc); (focus (first | rfl | (simp; done)))) | ((with_reducible apply row_newz); (focus (first | rfl | (simp; done)))) | (with_reducible apply row_same) | ((with_reducible apply row_else); (focus (first | (simp; done) | (simp; omega) | omega))) | (with_reducible apply row_alloc) | (with_reducible apply row_drew) | (with_reducible apply row_drewN) | ((with_reducible apply row_up); assumption)))))
    exact bodyPost_ret (res2 rfl undW infoW _ _ rfl (hQ2.setRow _)) rfl ⟨_, rfl, below_setRow ((hU.trans hu1).trans hu2) (by omega) _, h2.setRow hQ2⟩
  | true =>
    rw [hR] at HR
    obtain ⟨n0, n8, _, _⟩ := rt_spec hR
    obtain ⟨n, rfl⟩ : ∃ n : Nat, N = (n : Int) := ⟨N.toNat, by omega⟩
    have e : detC n l = 0 := by unfold detC; rw [hR]; rfl
    have e2 : detV n l = det n (AM n l) := by unfold detV; rw [hR, if_pos rfl]; rfl
    rw [e, e2]
    have HSQ := hid (fun w' (hu : Up w w') => square_any (HSm.out.up hu) hR)
    have HSt := hid (St.start hR)
    have HMt := hid (Mat.start n l)
    have HFu := hid (Full.start n (AM n l))
    have HO1 := hid (fun w => of_any 1 (by decide) (by decide) w)
    have hn8 : n ≤ 8 := by omega
    obtain ⟨D, hD⟩ : ∃ D, det n (AM n l) = D := ⟨_, rfl⟩
    rw [hD] at HFu ⊢
    clear e e2 hR n0 n8 hD
    unfold wideV at *
    go_enter Tryd.func30, Tryd.ntmps30
    go_wp2_with (first
      | ((with_reducible apply ldM_P); exact rfl; exact rfl; (first | exact hB | exact hB3); exact rfl)
      | (go_at_call 10; (with_reducible refine (HR.out _ hU).mono ?_); rintro r w1 ⟨rfl, hu1⟩; replace hB := hB.up hu1; replace hQ := hQ.up hu1; replace hU := hU.trans hu1)
      | (go_at_call 47; (with_reducible refine (HO1.out _).mono ?_); rintro r w2 ⟨rfl, hu2⟩; have hsz1 := hQ.lt; have hsz2 := hu2.size)
      | ((with_reducible apply st_rowP infoW); exact rfl; exact rfl; exact row_newz _ rfl
         refine wpL_folded (fun wd => Up w2 wd ∧ Row wd w2.heap.size 64 16 (limb (enc 1))) ⟨(by repeat (first | assumption | (with_reducible apply Up.of) | (with_reducible exact Below.refl _ _) | (with_reducible exact Up.refl _) | ((with_reducible apply bl_setRow); (focus (first | exact Nat.le_refl _ | (simp; done) | (simp; omega) | omega))) | (with_reducible apply below_drewN) | (with_reducible apply Below.drew) | ((with_reducible apply bl_alloc); (focus (first | exact Nat.le_refl _ | (simp; done) | (simp; omega) | omega))) | ((with_reducible apply bl_setCell); (focus (first | exact Nat.le_refl _ | (simp; done) | (simp; omega) | omega))) | ((with_reducible apply up_tr); assumption))), (by (repeat (first | assumption | ((with_reducible apply row_newc); (focus (first | rfl | (simp; done)))) | ((with_reducible apply row_newz); (focus (first | rfl | (simp; done)))) | (with_reducible apply row_same) | ((with_reducible apply row_else); (focus (first | (simp; done) | (simp; omega) | omega))) | (with_reducible apply row_alloc) | (with_reducible apply row_drew) | (with_reducible apply row_drewN) | ((with_reducible apply row_up); assumption))))⟩ ?_
         rintro wL ⟨hXL, hLast⟩
         have hU2 := (hU.trans hu2).trans hXL
         have hB3 := (hB.up hu2).up hXL
         have hQ3 := (hQ.up hu2).up hXL)
      | (go_at_call 58; (with_reducible refine (HSQ.out _ hU2).mono ?_); rintro r w3 ⟨z3, rfl, hu3, b3, hb3, hO3⟩; have hLast3 := hLast.up hu3; have hU3 := hU2.trans hu3; have hlt2 := hLast.lt; have hQ4 := hQ3.up hu3))
    obtain ⟨pz, cz, rfl⟩ := hO3.slice
    obtain ⟨bL, hbL⟩ : ∃ y, w2.heap.size = y := ⟨_, rfl⟩
    rw [hbL] at hLast3 hlt2 ⊢
    have hwbL : w.heap.size + 1 < bL := by omega
    have hInv : ∃ (k s : Nat) (q : Int) (M : Nat → Nat → Int) (L : List (List Int)) (bR : Nat), s + k = n ∧ Mat s L M ∧ St q k M ∧ Full q s M D ∧ OwnR w3 bR (.slice pz (sqE n l).length cz) L ∧ bL < bR ∧
        Row w3 bL 64 16 (limb (enc q)) ∧ Row w3 (w.heap.size + 1) 64 16 (fun _ => 0) ∧ Up w w3 :=
      ⟨0, n, 1, AM n l, sqE n l, b3, by omega, HMt.out, HSt.out, HFu.out, hO3, by omega, hLast3, hQ4, hU3⟩
    clear hO3 hLast3 hlt2 hb3 hu3 hU3 hU2 hB hB3 hU hu2 hu1 hXL hLast hW0 HSt HMt HFu hbL hsz1 hsz2 HSQ HO1 HR HWR hQ hQ3 hQ4
    go_loopg [5] (n + 1) (fun g tr wr => ∃ (k s : Nat) (q : Int) (M : Nat → Nat → Int) (L : List (List Int)) (bR : Nat), s ≤ g ∧ s + k = n ∧ Mat s L M ∧ St q k M ∧ Full q s M D ∧ OwnR wr bR tr L ∧ bL < bR ∧
        Row wr bL 64 16 (limb (enc q)) ∧ Row wr (w.heap.size + 1) 64 16 (fun _ => 0) ∧ Up w wr)
    case atStart =>
      obtain ⟨k, s, q, M, L, bR, h1, h2⟩ := hInv
      exact ⟨k, s, q, M, L, bR, by omega, h1, h2⟩
    case round =>
      clear hInv
      obtain ⟨k, s, q, M, L, bR, hsg, hsk, hMat, hSt, hFu, hO, hbR, hRow, hQ, hu⟩ := hrel
      obtain ⟨pr, cr, rfl⟩ := hO.slice
      rw [hMat.1]
      rcases s with _ | s
      · obtain rfl := hFu.zero
        clear hFu hSt
        go_wp2_with (first | ((with_reducible apply ld_rowP undW infoW); exact rfl; exact rfl; focus (repeat (first | assumption | ((with_reducible apply row_newc); (focus (first | rfl | (simp; done)))) | ((with_reducible apply row_newz); (focus (first | rfl | (simp; done)))) | (with_reducible apply row_same) | ((with_reducible apply row_else); (focus (first | (simp; done) | (simp; omega) | omega))) | (with_reducible apply row_alloc) | (with_reducible apply row_drew) | (with_reducible apply row_drewN) | ((with_reducible apply row_up); assumption)))) | ((with_reducible apply st_rowP infoW); exact rfl; exact rfl; focus (repeat (first | assumption | ((with_reducible apply row_newc); (focus (first | rfl | (simp; done)))) | ((with_reducible apply row_newz); (focus (first | rfl | (simp; done)))) | (with_reducible apply row_same) | ((with_reducible apply row_else); (focus (first | (simp; done) | (simp; omega) | omega))) | (with_reducible apply row_alloc) | (with_reducible apply row_drew) | (with_reducible apply row_drewN) | ((with_reducible apply row_up); assumption)))) | ((with_reducible apply st_rowZ infoW); exact rfl; exact rfl; focus (repeat (first | assumption | ((with_reducible apply row_newc); (focus (first | rfl | (simp; done)))) | ((with_reducible apply row_newz); (focus (first | rfl | (simp; done)))) | (with_reducible apply row_same) | ((with_reducible apply row_else); (focus (first | (simp; done) | (simp; omega) | omega))) | (with_reducible apply row_alloc) | (with_reducible apply row_drew) | (with_reducible apply row_drewN) | ((with_reducible apply row_up); assumption)))))
        exact bodyPost_ret (res2 rfl undW infoW _ _ rfl (hQ.setRow _)) rfl ⟨_, rfl, below_setRow hu (by omega) _, .inl ⟨rfl, rfl⟩⟩
      · have hk7 : k ≤ 7 := by omega
        obtain ⟨gR, cR, CR, hv, hgR, hcR, -, -⟩ := hO.open (by rw [hMat.1]; omega)
        injection hv with x1 x2 x3
        subst x1 x3
        rw [hMat.1] at hcR hO
        obtain ⟨c2, rfl⟩ : ∃ c2, cr = c2 + 1 := ⟨cr - 1, by omega⟩
        have HLD := hid (leading_any hO hMat hSt hk7 (by omega))
        have HO := hid hO
        have HMat := hid hMat
        have HSt := hid hSt
        have HFu := hid hFu
        clear hO hMat hSt hFu x2
        go_wp2_with (first
          | (go_at_call 59; (with_reducible refine HLD.out.mono ?_); rintro r w5 ⟨hu5, hcase⟩; have hQ5 := hQ.up hu5; rcases hcase with ⟨z5, F, M', rfl, hWF, hLd⟩ | ⟨rfl, hz⟩)
          | ((with_reducible apply st_rowP infoW); exact rfl; exact rfl; focus (repeat (first | assumption | ((with_reducible apply row_newc); (focus (first | rfl | (simp; done)))) | ((with_reducible apply row_newz); (focus (first | rfl | (simp; done)))) | (with_reducible apply row_same) | ((with_reducible apply row_else); (focus (first | (simp; done) | (simp; omega) | omega))) | (with_reducible apply row_alloc) | (with_reducible apply row_drew) | (with_reducible apply row_drewN) | ((with_reducible apply row_up); assumption)))) | ((with_reducible apply st_rowZ infoW); exact rfl; exact rfl; focus (repeat (first | assumption | ((with_reducible apply row_newc); (focus (first | rfl | (simp; done)))) | ((with_reducible apply row_newz); (focus (first | rfl | (simp; done)))) | (with_reducible apply row_same) | ((with_reducible apply row_else); (focus (first | (simp; done) | (simp; omega) | omega))) | (with_reducible apply row_alloc) | (with_reducible apply row_drew) | (with_reducible apply row_drewN) | ((with_reducible apply row_up); assumption)))))
        · obtain ⟨gF, cF, CF, rfl, hcF, hBF, htF⟩ := hWF.open (by rw [hLd.1]; omega)
          rw [hLd.1]
          have HWv := hid (fun w' (hB : Blk w' gF 64 CF) => show Wv w' (.slice (some ⟨gF, 0, none⟩) (s + 1) cF) F from .inr ⟨gF, cF, CF, by rw [hLd.1], hcF, hB, htF⟩)
          have HRng : Hid (∀ w', Blk w' gF 64 CF → w'.rangeAt gF 0 (wc (M' 0 0))) := hid (fun w' hB => by
            have h := wv_range hB htF (i := 0) (by rw [hLd.1]; omega)
            rw [hLd.2.1 0 (by omega), Nat.zero_mul] at h
            exact h)
          have HLd := hid hLd
          have hRow7 := hRow.up hu5
          have hOR7 := HO.out.up hu5
          have hU7 := hu.trans hu5
          obtain ⟨NX, hNX⟩ : ∃ y, ((L.drop 1).map fun R => tk F R q s) = y := ⟨_, rfl⟩
          have HNX := hid hNX
          have HFW : Hid (∀ w', Up w5 w' → Calls Tryd.prog 60 #[.slice (some ⟨gF, 0, none⟩) (s + 1) cF, tailV gR s c2, .agg (cells 16 (limb (enc q)))] w' (fun e w'' => Up w' w'' ∧ ∃ v, e = .returned v ∧ (fun v w'' => ∃ b, w5.heap.size ≤ b ∧ OwnR w'' b v NX) v w'')) := hid (fun w' hu' => by
            have hf := fewer_any (q := q) (n := s) (HWv.out w' (hBF.up hu')) ((hOR7.up hu').tail HMat.out.1) hLd.1 HMat.out.rest (by omega) (by rw [List.length_drop, HMat.out.1]; omega) (hLd.few HSt.out hk7) (fun i => by rw [show (L.drop 1).getD i [] = L.getD (i + 1) [] from by rw [List.getD_eq_getElem?_getD, List.getD_eq_getElem?_getD, List.getElem?_drop, Nat.add_comm]]; exact HMat.out.few HSt.out hk7 (i + 1)) HSt.out.2.2 HSt.out.2.1
            unfold wideV at hf
            rw [hNX] at hf
            refine hf.mono fun _ _ h => ?_
            obtain ⟨z, rfl, hu, b, hb, hO⟩ := h
            exact ⟨hu, z, rfl, b, Nat.le_trans hu'.size hb, hO⟩)
          clear hNX hWF htF hLd hcF
          obtain ⟨m0, hm0⟩ : ∃ y, M' 0 0 = y := ⟨_, rfl⟩
          rw [hm0] at HRng
          have HM0 := hid hm0
          clear hm0
          go_wp2_with fail
          refine wp_region_upS (S := (fun wq => Up w5 wq ∧ Below w.heap.size w wq)) (req := (fun j => j != 9)) (by kernel_rfl) (fun _ _ h hu => ⟨(h.1).trans hu, below_up (h.2) hu⟩) ⟨(by first | exact Up.refl _ | assumption), (by repeat (first | assumption | (with_reducible apply Up.of) | (with_reducible exact Below.refl _ _) | (with_reducible exact Up.refl _) | ((with_reducible apply bl_setRow); (focus (first | exact Nat.le_refl _ | (simp; done) | (simp; omega) | omega))) | (with_reducible apply below_drewN) | (with_reducible apply Below.drew) | ((with_reducible apply bl_alloc); (focus (first | exact Nat.le_refl _ | (simp; done) | (simp; omega) | omega))) | ((with_reducible apply bl_setCell); (focus (first | exact Nat.le_refl _ | (simp; done) | (simp; omega) | omega))) | ((with_reducible apply up_tr); assumption)))⟩ (fun wS hSS => ?_)
          have ⟨hS1, hSB⟩ := hSS
          refine wpAnyU_pure (i := 0) (d := (some 27)) (v := ?_) rfl rfl (by kernel_rfl) (fun _ _ _ h => h) (fun _ _ h hu => ⟨(h.1).trans hu, below_up (h.2) hu⟩) (Or.inl ⟨by rfl, fun w' _ => yu_value ?_⟩) ?_
          rotate_left
          · (go_simp; (try exact rfl))
          try simp only [Act.put, List.setIfInBounds_toArray, List.set_cons_zero, List.set_cons_succ]
          refine wpAnyU_pure (i := 1) (d := (some 28)) (v := ?_) rfl rfl (by kernel_rfl) (fun _ _ _ h => h) (fun _ _ h hu => ⟨(h.1).trans hu, below_up (h.2) hu⟩) (Or.inl ⟨by rfl, fun w' _ => yu_value ?_⟩) ?_
          rotate_left
          · (go_simp; (try exact rfl))
          try simp only [Act.put, List.setIfInBounds_toArray, List.set_cons_zero, List.set_cons_succ]
          refine wpAnyU_pure (i := 2) (d := (some 29)) (v := _) rfl rfl (by kernel_rfl) (fun _ _ _ h => h) (fun _ _ h hu => ⟨(h.1).trans hu, below_up (h.2) hu⟩) (Or.inl ⟨by rfl, fun w' _ => yu_value (run_tail (by omega) rfl rfl)⟩) ?_
          try simp only [Act.put, List.setIfInBounds_toArray, List.set_cons_zero, List.set_cons_succ]
          refine wpAnyU_take (i := 3) (d := (some 30)) (v := _) rfl rfl (by kernel_rfl) (fun _ _ _ h => h) (fun _ _ h hu => ⟨(h.1).trans hu, below_up (h.2) hu⟩) hSS (Or.inl ⟨by rfl, fun w' hSw => yu_value (run_ld undW infoW _ rfl _ rfl (hRow7.up hSw.1))⟩) ?_
          try simp only [Act.put, List.setIfInBounds_toArray, List.set_cons_zero, List.set_cons_succ]
          refine wpAnyU_pure (i := 5) (d := (some 32)) (v := ?_) rfl rfl (by kernel_rfl) (fun _ _ _ h => h) (fun _ _ h hu => ⟨(h.1).trans hu, below_up (h.2) hu⟩) (Or.inl ⟨by rfl, fun w' _ => yu_value ?_⟩) ?_
          rotate_left
          · (go_simp; (try exact rfl))
          try simp only [Act.put, List.setIfInBounds_toArray, List.set_cons_zero, List.set_cons_succ]
          refine wpAnyU_pure (i := 6) (d := (some 33)) (v := ?_) rfl rfl (by kernel_rfl) (fun _ _ _ h => h) (fun _ _ h hu => ⟨(h.1).trans hu, below_up (h.2) hu⟩) (Or.inl ⟨by rfl, fun w' _ => yu_value ?_⟩) ?_
          rotate_left
          · (go_simp; (try exact rfl))
          try simp only [Act.put, List.setIfInBounds_toArray, List.set_cons_zero, List.set_cons_succ]
          refine wpAnyU_take (i := 7) (d := (some 34)) (v := _) rfl rfl (by kernel_rfl) (fun _ _ _ h => h) (fun _ _ h hu => ⟨(h.1).trans hu, below_up (h.2) hu⟩) hSS (Or.inl ⟨by rfl, fun w' hSw => yu_value (run_ldW rfl rfl (HRng.out _ (hBF.up hSw.1)))⟩) ?_
          try simp only [Act.put, List.setIfInBounds_toArray, List.set_cons_zero, List.set_cons_succ]
          refine wpAnyU_callE (i := 4) (d := (some 31)) rfl rfl (by kernel_rfl) (by rfl) (fun _ _ h hu => ⟨(h.1).trans hu, below_up (h.2) hu⟩) (fun w' => by go_simp) (fun w' hw' => (HFW.out w' (hS1.trans hw'))) fun vG wG hwG hRG => ?_
          try simp only [Act.put, List.setIfInBounds_toArray, List.set_cons_zero, List.set_cons_succ]
          obtain ⟨bN, hbN, hON⟩ := hRG
          obtain ⟨pN, cN, rfl⟩ := hON.slice
          refine wpAnyU_pure (i := 8) (d := (some 5)) (v := ?_) rfl rfl (by kernel_rfl) (fun _ _ _ h => h) (fun _ _ h hu => ⟨(h.1).trans hu, below_up (h.2) hu⟩) (Or.inl ⟨by rfl, fun w' _ => yu_value ?_⟩) ?_
          rotate_left
          · (go_simp; (try exact rfl))
          try simp only [Act.put, List.setIfInBounds_toArray, List.set_cons_zero, List.set_cons_succ]
          refine wpAnyU_one (i := 9) rfl (by kernel_rfl) (by rfl) fun wX hwX => ?_
          refine wp_st_rowN infoW rfl _ _ rfl _ rfl rfl ((hRow7.up ((hS1.trans hwG).trans hwX))) ?_
          refine ⟨fun h => by simp at h, ?_⟩
          try simp only [Act.put, List.setIfInBounds_toArray, List.set_cons_zero, List.set_cons_succ]
          refine wpAnyU_done (by kernel_rfl) (fun wF huE => ?_) _
          have hUG := (hS1.trans hwG).trans hwX
          have hltb := hRow7.lt
          have gRow := ((hRow7.up hUG).setRow (limb (enc m0))).up huE
          have gO := ((hON.up hwX).below (show bL < bN by omega) (cells 16 (limb (enc m0)))).up huE
          have gU := Up.trans (below_setRow (hU7.trans hUG) (show w.heap.size ≤ bL by omega) (cells 16 (limb (enc m0)))) huE
          have gQ := ((hQ5.up hUG).row_other (cells 16 (limb (enc m0))) (show w.heap.size + 1 ≠ bL by omega)).up huE
          have gM : Mat s NX (nxt q M') := HNX.out ▸ HLd.out.mat HMat.out
          have gS : St m0 (k + 1) (nxt q M') := HM0.out ▸ HLd.out.next HSt.out hk7
          have gF : Full m0 s (nxt q M') D := HM0.out ▸ HLd.out.full HSt.out HFu.out
          clear hS1 hSB hSS hwG hwX huE hON hUG
          go_wp2_with fail
          go_roundg s
          case measure => omega
          case rel => exact ⟨k + 1, s, m0, nxt q M', NX, bN, Nat.le_refl _, by omega, gM, gS, gF, gO, by omega, gRow, gQ, gU⟩
        · have hD0 : D = 0 := HFu.out.nil HSt.out.2.1 hz
          rw [hD0, ← zero_limb]
          exact bodyPost_ret (res2 rfl undW infoW _ _ rfl (hQ5.setRow _)) rfl ⟨_, rfl, below_setRow (hu.trans hu5) (by omega) _, .inl ⟨rfl, rfl⟩⟩
end Go.Proofs.YtdcpoamjmoceiaaDoor
/-
  elim.Definite; which error it is.
-/
namespace Go.Proofs.YtdcpoamjmoceiaaDoor
open Go Go.RowKit
set_option maxRecDepth 100000
set_option maxRecDepth 100000

/-- Whether a matrix is right, and all its minors are above 0. -/
def dfV (N : Int) (l : List Int) : Bool := (mnR N l).all (fun x => decide (0 < x)) && rt N l
theorem mnR_few {N : Int} {l : List Int} : ∀ i, i < (mnR N l).length → (zth (mnR N l) i).natAbs < bp 5 := by
  unfold mnR
  cases hR : rt N l with
  | false => intro i hi; exact absurd hi (Nat.not_lt_zero _)
  | true =>
    obtain ⟨n0, n8, _, _⟩ := rt_spec hR
    obtain ⟨n, rfl⟩ : ∃ n : Nat, N = (n : Int) := ⟨N.toNat, by omega⟩
    rw [if_pos rfl]
    have key : ∀ s k q M, s + k ≤ 8 → St q k M → ∀ i, i < (mins s q M).length → (zth (mins s q M) i).natAbs < bp 5 := by
      intro s
      induction s with
      | zero => intro k q M _ _ i hi; exact absurd hi (Nat.not_lt_zero _)
      | succ s ih =>
        intro k q M hk hs i hi
        have e : mins (s + 1) q M = M 0 0 :: (if 0 < M 0 0 then mins s (M 0 0) (nxt q M) else []) := rfl
        rw [e] at hi ⊢
        rcases i with _ | i
        · exact hs.entry (by omega) 0 0
        · by_cases hp : 0 < M 0 0
          · rw [if_pos hp] at hi ⊢
            exact ih (k + 1) _ _ (by omega) (hs.next (by omega) (by omega)) i (by simpa using hi)
          · rw [if_neg hp] at hi; simp at hi
    exact key n 0 1 _ (by omega) (by rw [show ((n : Int)).toNat = n by omega]; exact St.start hR)
theorem mnR_len {N : Int} {l : List Int} : (mnR N l).length ≤ 8 := by
  unfold mnR
  cases hR : rt N l with
  | false => simp
  | true =>
    obtain ⟨n0, n8, _, _⟩ := rt_spec hR
    rw [if_pos rfl]
    have := mins_len N.toNat 1 (AM N.toNat l)
    omega
set_option maxHeartbeats 8000000 in
theorem definite_any {v : Value} {N : Int} {l : List Int} {w : World} (hm : Sm w v N l) :
    Calls Tryd.prog 32 #[v] w fun r w' => r = .returned (.bool (dfV N l)) ∧ Up w w' := by
  have HMI := hid (fun w' (hu : Up w w') => minors_any (hm.up hu))
  obtain ⟨s, rfl, ⟨p, cap, rfl, -, -⟩, -, -, -⟩ := hm
  obtain ⟨W0, hW0⟩ : ∃ W0, w.alloc (.cells #[.int .i64 N, .slice p l.length cap] 24) = W0 := ⟨_, rfl⟩
  have hB : Blk W0 w.heap.size 24 #[.int .i64 N, .slice p l.length cap] := by rw [← hW0]; exact Blk.new _ _ rfl
  have hU : Up w W0 := by rw [← hW0]; exact Up.alloc _ _
  have HF := hid (mnR_few (N := N) (l := l))
  have HLn := hid (mnR_len (N := N) (l := l))
  obtain ⟨T, hT⟩ : ∃ T, mnR N l = T := ⟨_, rfl⟩
  obtain ⟨C, hC⟩ : ∃ C, mnC N l = C := ⟨_, rfl⟩
  obtain ⟨o, ho⟩ : ∃ o, dfV N l = o := ⟨_, rfl⟩
  have HOo : Hid (o = (T.all (fun x => decide (0 < x)) && decide (C = 0))) := hid (by
    rw [← ho, ← hT, ← hC]
    unfold dfV mnC
    cases rt N l <;> simp)
  rw [hT] at HMI HF HLn
  rw [hC] at HMI
  rw [ho]
  clear hT hC ho
  go_enter Tryd.func32, Tryd.ntmps32
  go_wp2_with (first
    | ((with_reducible apply ldM_P); exact rfl; exact rfl; exact hB; exact rfl)
    | (go_at_call 52; (with_reducible refine (HMI.out _ hU).mono ?_); rintro r w1 ⟨z1, u1, rfl, hu1, hW1, he1⟩; obtain ⟨p1, c1, rfl⟩ := hW1.slice))
  have hU1 := hU.trans hu1
  clear hW0 hu1 hB hU HMI
  go_loopg [14] (T.length + 1) (fun g ti wr => ∃ i : Nat, i ≤ T.length ∧ T.length - i ≤ g ∧ ti = .int .i64 (i : Nat) ∧ (∀ j, j < i → 0 < zth T j) ∧ Up w1 wr)
  case atStart => exact ⟨0, Nat.zero_le _, by omega, rfl, fun j hj => absurd hj (Nat.not_lt_zero _), Up.refl _⟩
  case round =>
    obtain ⟨i, hi, hig, rfl, hpos, hu⟩ := hrel
    have HPo := hid hpos
    clear hpos
    by_cases hlt : i < T.length
    · obtain ⟨g1, c9, C1, hv, hc9, hB1, ht1⟩ := hW1.open (by omega)
      injection hv with x1 x2 x3
      subst x1 x3
      have HR1 := hid (fun w' (hB : Blk w' g1 64 C1) => wv_range hB ht1 hlt)
      have HSg := hid (fun w => sign_z (few_inR (k := 5) (by omega) (HF.out i hlt)) w)
      have hBr := hB1.up hu
      have e1 : IntKind.i64.wrap ((i : Int) + 1) = (i : Int) + 1 := IntWalk.i64_in _ (by have := HLn.out; omega)
      unfold wideV at HSg
      clear ht1 x2 hc9
      obtain ⟨z, hz⟩ : ∃ z, zth T i = z := ⟨_, rfl⟩
      rw [hz] at HR1 HSg
      have HZ := hid hz
      clear hz
      by_cases hp : 0 < z
      · have ds : decide (sgn z ≤ 0) = false := by unfold sgn; rw [decide_eq_false]; split <;> (try split) <;> omega
        have HP := hid hp
        clear hp
        go_wp2_with (first
          | ((with_reducible apply ldW_P); exact rfl; exact rfl; exact HR1.out _ hBr)
          | ((with_reducible apply ld_rowP undW infoW); exact rfl; exact rfl; focus (repeat (first | assumption | ((with_reducible apply row_newc); (focus (first | rfl | (simp; done)))) | ((with_reducible apply row_newz); (focus (first | rfl | (simp; done)))) | (with_reducible apply row_same) | ((with_reducible apply row_else); (focus (first | (simp; done) | (simp; omega) | omega))) | (with_reducible apply row_alloc) | (with_reducible apply row_drew) | (with_reducible apply row_drewN) | ((with_reducible apply row_up); assumption))))
          | ((with_reducible apply st_rowP infoW); exact rfl; exact rfl; exact row_newz _ rfl
             refine wpL_folded (fun wd => Up wr wd ∧ Row wd wr.heap.size 64 16 (limb (enc z))) ⟨(by repeat (first | assumption | (with_reducible apply Up.of) | (with_reducible exact Below.refl _ _) | (with_reducible exact Up.refl _) | ((with_reducible apply bl_setRow); (focus (first | exact Nat.le_refl _ | (simp; done) | (simp; omega) | omega))) | (with_reducible apply below_drewN) | (with_reducible apply Below.drew) | ((with_reducible apply bl_alloc); (focus (first | exact Nat.le_refl _ | (simp; done) | (simp; omega) | omega))) | ((with_reducible apply bl_setCell); (focus (first | exact Nat.le_refl _ | (simp; done) | (simp; omega) | omega))) | ((with_reducible apply up_tr); assumption))), (by (repeat (first | assumption | ((with_reducible apply row_newc); (focus (first | rfl | (simp; done)))) | ((with_reducible apply row_newz); (focus (first | rfl | (simp; done)))) | (with_reducible apply row_same) | ((with_reducible apply row_else); (focus (first | (simp; done) | (simp; omega) | omega))) | (with_reducible apply row_alloc) | (with_reducible apply row_drew) | (with_reducible apply row_drewN) | ((with_reducible apply row_up); assumption))))⟩ ?_
             rintro wL ⟨hXL, hRL⟩)
          | (go_at_call 62; (with_reducible refine (HSg.out _).mono ?_); rintro r w3 ⟨rfl, hu3⟩))
        go_roundg (T.length - (i + 1))
        case measure => omega
        case rel => exact ⟨i + 1, hlt, Nat.le_refl _, rfl, fun j hj => by
          rcases Nat.lt_succ_iff_lt_or_eq.1 hj with h | h
          · exact HPo.out j h
          · rw [h, HZ.out]; exact HP.out, hu.trans (hXL.trans hu3)⟩
      · have ds : decide (sgn z ≤ 0) = true := by unfold sgn; rw [decide_eq_true]; split <;> (try split) <;> omega
        have HP := hid hp
        clear hp
        go_wp2_with (first
          | ((with_reducible apply ldW_P); exact rfl; exact rfl; exact HR1.out _ hBr)
          | ((with_reducible apply ld_rowP undW infoW); exact rfl; exact rfl; focus (repeat (first | assumption | ((with_reducible apply row_newc); (focus (first | rfl | (simp; done)))) | ((with_reducible apply row_newz); (focus (first | rfl | (simp; done)))) | (with_reducible apply row_same) | ((with_reducible apply row_else); (focus (first | (simp; done) | (simp; omega) | omega))) | (with_reducible apply row_alloc) | (with_reducible apply row_drew) | (with_reducible apply row_drewN) | ((with_reducible apply row_up); assumption))))
          | ((with_reducible apply st_rowP infoW); exact rfl; exact rfl; exact row_newz _ rfl
             refine wpL_folded (fun wd => Up wr wd ∧ Row wd wr.heap.size 64 16 (limb (enc z))) ⟨(by repeat (first | assumption | (with_reducible apply Up.of) | (with_reducible exact Below.refl _ _) | (with_reducible exact Up.refl _) | ((with_reducible apply bl_setRow); (focus (first | exact Nat.le_refl _ | (simp; done) | (simp; omega) | omega))) | (with_reducible apply below_drewN) | (with_reducible apply Below.drew) | ((with_reducible apply bl_alloc); (focus (first | exact Nat.le_refl _ | (simp; done) | (simp; omega) | omega))) | ((with_reducible apply bl_setCell); (focus (first | exact Nat.le_refl _ | (simp; done) | (simp; omega) | omega))) | ((with_reducible apply up_tr); assumption))), (by (repeat (first | assumption | ((with_reducible apply row_newc); (focus (first | rfl | (simp; done)))) | ((with_reducible apply row_newz); (focus (first | rfl | (simp; done)))) | (with_reducible apply row_same) | ((with_reducible apply row_else); (focus (first | (simp; done) | (simp; omega) | omega))) | (with_reducible apply row_alloc) | (with_reducible apply row_drew) | (with_reducible apply row_drewN) | ((with_reducible apply row_up); assumption))))⟩ ?_
             rintro wL ⟨hXL, hRL⟩)
          | (go_at_call 62; (with_reducible refine (HSg.out _).mono ?_); rintro r w3 ⟨rfl, hu3⟩))
        go_ret
        have ho : o = false := by
          rw [HOo.out, Bool.and_eq_false_iff]
          refine .inl (List.all_eq_false.2 ⟨z, ?_, by have := HP.out; simpa using this⟩)
          rw [← HZ.out, zth_get hlt]
          exact List.getElem_mem _
        exact ⟨by rw [ho]; rfl, hU1.trans (hu.trans (hXL.trans hu3))⟩
    · obtain rfl : i = T.length := by omega
      have hall : T.all (fun x => decide (0 < x)) = true := List.all_eq_true.2 fun x hx => by
        obtain ⟨j, hj, rfl⟩ := List.mem_iff_getElem.1 hx
        have := HPo.out j hj
        rw [zth_get hj] at this
        exact decide_eq_true this
      have hoo := HOo.out
      rw [hall, Bool.true_and] at hoo
      have HOO := hid hoo
      clear hoo hall
      rcases he1 with ⟨h0, rfl⟩ | ⟨h0, t, x, rfl, -⟩
      · have HO2 : Hid (o = true) := hid (by rw [HOO.out]; exact decide_eq_true h0)
        clear h0
        go_wp2_with fail
        go_ret
        exact ⟨by rw [HO2.out]; rfl, hU1.trans hu⟩
      · have HO2 : Hid (o = false) := hid (by rw [HOO.out]; exact decide_eq_false h0)
        clear h0
        go_wp2_with fail
        go_ret
        exact ⟨by rw [HO2.out]; rfl, hU1.trans hu⟩
theorem esays_any {u : Value} {e : Int} {w : World} (h : ErrsE w u e) (hg : Glob w) :
    Calls Tryd.prog 53 #[u, .int .i64 e] w fun r w' => r = .returned (.bool true) ∧ Up w w' := by
  rcases h with ⟨rfl, rfl⟩ | ⟨h0, t, x, rfl, hE⟩
  · go_enter Tryd.func53, Tryd.ntmps53
    go_wp2_with fail
    go_ret
    exact ⟨rfl, Up.refl _⟩
  · have d : (e == 0) = false := by simpa using h0
    have HO := hid (fun w' (hu : Up w w') => ops_any (hE.up hu) (show 1 < 1000000 by decide))
    have HC := hid (fun w' (hu : Up w w') => code_any (hE.up hu) (hg.up hu))
    have de : (e == e) = true := by simp
    have dB : (elimB.toList == [101, 108, 105, 109]) = true := by rw [show elimB.toList = [101, 108, 105, 109] from by rw [ByteArray.toList_eq]; rfl]; rfl
    clear hE hg h0
    go_enter Tryd.func53, Tryd.ntmps53
    go_wp2_with (first
      | (go_at_call 43; (with_reducible refine (HO.out _ (Up.refl _)).mono ?_); rintro r w1 ⟨s, rfl, hu1, hs⟩; obtain ⟨g, cap, C, rfl, hB, h0⟩ := own_one hs)
      | (go_at_call 25; (with_reducible refine (HC.out _ hu1).mono ?_); rintro r w2 ⟨rfl, hu2⟩; have hc := (hB.up hu2).cell 0 h0; have de2 : ((Er.flt elimB (.num e)).first.getD 36 == e) = true := by (show (e == e) = true; simp)))
    go_ret
    exact ⟨rfl, hu1.trans hu2⟩
end Go.Proofs.YtdcpoamjmoceiaaDoor
/-
  Symmetric matrices by the reference: Diag.
-/
namespace Go.Proofs.YtdcpoamjmoceiaaDoor
open Go Go.RowKit
set_option maxRecDepth 100000
set_option maxRecDepth 100000

theorem In64.mixed {new old : List Int} (hl : new.length = old.length) (h : In64 old) {p : Nat} (hf : ∀ q, q < p → fit (zth new q) = true) : In64 (mixed new old p) := by
  intro i hi
  rw [mixed_len hl] at hi
  rw [mixed_get hl _ hi]
  split
  · rename_i h1; exact fit_i64 (hf i h1)
  · exact h i hi
theorem OwnI.sm {w : World} {base : Nat} {s : Value} {l : List Int} {N : Int} (h : OwnI w base s l) (hN : I64 N) (hl : In64 l) (hn : l.length ≤ 1000) : Sm w (.agg #[.int .i64 N, s]) N l := ⟨s, rfl, h.vw, hN, hl, hn⟩
end Go.Proofs.YtdcpoamjmoceiaaDoor
/-
  Symmetric matrices by the reference: Outer.
-/
namespace Go.Proofs.YtdcpoamjmoceiaaDoor
open Go Go.RowKit
set_option maxRecDepth 100000
set_option maxRecDepth 100000

end Go.Proofs.YtdcpoamjmoceiaaDoor
/-
  Symmetric matrices: leadlinelaw5.known; what is right stays so.
-/
namespace Go.Proofs.YtdcpoamjmoceiaaDoor
open Go Go.RowKit
set_option maxRecDepth 100000
set_option maxRecDepth 100000

theorem Vw.two (w : World) (a b : Int) : Vw (w.alloc (.cells #[.int .i64 a, .int .i64 b] 2)) (.slice (some ⟨w.heap.size, 0, none⟩) 2 2) [a, b] := by
  refine ⟨_, 2, rfl, ⟨Nat.le_refl _, fun e => by cases e⟩, fun i hi => ⟨_, rfl, ?_⟩⟩
  rcases i with _ | _ | i
  · simp [zth, Addr.add]
  · simp [zth, Addr.add]
  · simp at hi; omega
theorem Errs.zero {w : World} {u : Value} (h : Errs w u 0) : u = .nilIface := by
  rcases h with ⟨_, h⟩ | ⟨h, _⟩
  · exact h
  · exact absurd rfl h
theorem sm_one (w : World) : Sm w (.agg #[.int .i64 1, .slice none 0 0]) 1 [] :=
  ⟨_, rfl, ⟨none, 0, rfl, ⟨Nat.le_refl _, fun _ => rfl⟩, fun i hi => absurd hi (Nat.not_lt_zero _)⟩, by unfold I64; omega, fun i hi => absurd hi (Nat.not_lt_zero _), by simp⟩
end Go.Proofs.YtdcpoamjmoceiaaDoor
/-
  leadlineseat.Sym: it tells a matrix that is right.
-/
namespace Go.Proofs.YtdcpoamjmoceiaaDoor
open Go Go.RowKit
set_option maxRecDepth 100000
set_option maxRecDepth 100000

theorem all_zeros (n : Int) : (zeros n).all fit = true := all_yes fun k _ => by rw [zth_zeros]; decide
theorem rt_zeros {n : Int} (h0 : 0 ≤ n) (h8 : n ≤ 8) : rt n (zeros n) = true := by rw [rt_yes ⟨h0, h8, len_zeros h0 h8⟩]; exact all_zeros n
theorem rt_of {N : Int} {l l' : List Int} (h : rt N l = true) (hl : l'.length = l.length) (hf : l'.all fit = true) : rt N l' = true := by
  obtain ⟨h1, h2, h3, _⟩ := rt_spec h
  rw [rt_yes ⟨h1, h2, by rw [hl]; exact h3⟩]
  exact hf
theorem vw_one (w : World) (a : Int) : Vw (w.alloc (.cells #[.int .i64 a] 2)) (.slice (some ⟨w.heap.size, 0, none⟩) 1 1) [a] := by
  refine ⟨_, 1, rfl, ⟨Nat.le_refl _, fun e => by cases e⟩, fun i hi => ⟨_, rfl, ?_⟩⟩
  rcases i with _ | i
  · simp [zth, Addr.add]
  · simp at hi
end Go.Proofs.YtdcpoamjmoceiaaDoor
/-
  leadlineseat.Vec: as many numbers as there are rows.
-/
namespace Go.Proofs.YtdcpoamjmoceiaaDoor
open Go Go.RowKit
set_option maxRecDepth 100000
set_option maxRecDepth 100000

theorem tmod_bound (v : Int) {m : Int} (hm : 0 < m) : -m < v.tmod m ∧ v.tmod m < m := by
  have h1 := Int.tmod_lt_of_pos v hm
  have h2 := Int.neg_tmod v m
  have h3 := Int.tmod_lt_of_pos (-v) hm
  omega
end Go.Proofs.YtdcpoamjmoceiaaDoor
/-
  Diagonals: their determinant is their product; which ones are definite.
-/
namespace Go.Proofs.YtdcpoamjmoceiaaDoor
open Go Go.RowKit
set_option maxRecDepth 100000
set_option maxRecDepth 100000

def prd (v : Nat → Int) : Nat → Int
  | 0 => 1
  | k + 1 => prd v k * v k
def allP (v : Nat → Int) : Nat → Bool
  | 0 => true
  | k + 1 => allP v k && decide (0 < v k)
def dgA (v : Nat → Int) (k : Nat) : Nat → Nat → Int := fun i j => if i = j ∧ i < k then v i else 0
theorem prd_head (v : Nat → Int) : ∀ n, prd v (n + 1) = v 0 * prd (fun i => v (i + 1)) n := by
  intro n
  induction n with
  | zero => show 1 * v 0 = v 0 * 1; omega
  | succ n ih =>
    show prd v (n + 1) * v (n + 1) = v 0 * (prd (fun i => v (i + 1)) n * v (n + 1))
    rw [ih, Int.mul_assoc]
theorem allP_iff (v : Nat → Int) : ∀ n, allP v n = true ↔ ∀ i, i < n → 0 < v i := by
  intro n
  induction n with
  | zero => exact ⟨fun _ i hi => absurd hi (Nat.not_lt_zero _), fun _ => rfl⟩
  | succ n ih =>
    show (allP v n && decide (0 < v n)) = true ↔ _
    rw [Bool.and_eq_true, ih, decide_eq_true_iff]
    exact ⟨fun h i hi => by
      rcases Nat.lt_succ_iff_lt_or_eq.1 hi with h1 | h1
      · exact h.1 i h1
      · rw [h1]; exact h.2, fun h => ⟨fun i hi => h i (by omega), h n (by omega)⟩⟩
theorem prd_abs {v : Nat → Int} (h : ∀ i, (v i).natAbs ≤ 1073741824) : ∀ k, (prd v k).natAbs ≤ 1073741824 ^ k := by
  intro k
  induction k with
  | zero => exact Nat.le_refl _
  | succ k ih =>
    show (prd v k * v k).natAbs ≤ _
    rw [Int.natAbs_mul, Nat.pow_succ]
    exact Nat.mul_le_mul ih (h k)
theorem prd_bp {v : Nat → Int} (h : ∀ i, (v i).natAbs ≤ 1073741824) {k : Nat} (hk : k ≤ 8) : (prd v k).natAbs < bp 5 :=
  Nat.lt_of_le_of_lt (Nat.le_trans (prd_abs h k) (Nat.pow_le_pow_right (by decide) hk)) (by decide +kernel)
theorem det_dg : ∀ (n : Nat) (v : Nat → Int), det n (dgA v n) = prd v n := by
  intro n
  induction n with
  | zero => intro v; rfl
  | succ n ih =>
    intro v
    rw [prd_head, ← ih]
    show sumN (n + 1) (fun i => sg i * dgA v (n + 1) i 0 * det n fun r c => dgA v (n + 1) (sk i r) (c + 1)) = _
    rw [sumN_one (p := 0) (by omega) fun i hi h0 => by
      have : dgA v (n + 1) i 0 = 0 := by unfold dgA; rw [if_neg (by omega)]
      rw [this, Int.mul_zero, Int.zero_mul]]
    have e1 : dgA v (n + 1) 0 0 = v 0 := by unfold dgA; rw [if_pos ⟨rfl, by omega⟩]
    have e2 : sg 0 = 1 := rfl
    rw [e1, e2, Int.one_mul]
    refine congrArg _ (det_congr fun r c hr hc => ?_)
    unfold dgA sk
    rw [if_neg (Nat.not_lt_zero r)]
    by_cases h : r = c
    · rw [if_pos ⟨by omega, by omega⟩, if_pos ⟨h, hr⟩]
    · rw [if_neg (by omega), if_neg (by omega)]
theorem sumN_nonneg {n : Nat} {f : Nat → Int} (h : ∀ i, i < n → 0 ≤ f i) : 0 ≤ sumN n f := by
  induction n with
  | zero => exact Int.le_refl _
  | succ n ih =>
    have := ih fun i hi => h i (by omega)
    have := h n (by omega)
    unfold sumN; omega
theorem sumN_pos {n p : Nat} {f : Nat → Int} (h : ∀ i, i < n → 0 ≤ f i) (hp : p < n) (h1 : 0 < f p) : 0 < sumN n f := by
  induction n with
  | zero => exact absurd hp (Nat.not_lt_zero _)
  | succ n ih =>
    have h0 := sumN_nonneg (n := n) fun i hi => h i (by omega)
    have h2 := h n (by omega)
    rcases Nat.lt_succ_iff_lt_or_eq.1 hp with h3 | h3
    · have := ih (fun i hi => h i (by omega)) h3
      unfold sumN; omega
    · subst h3
      unfold sumN; omega
theorem quad_dg (n : Nat) (v x : Nat → Int) : quad n (dgA v n) x = sumN n fun i => v i * (x i * x i) := by
  refine sumN_congr fun i hi => ?_
  rw [sumN_one (p := i) hi fun j hj hne => by
    have : dgA v n i j = 0 := by unfold dgA; rw [if_neg (by omega)]
    rw [this, Int.zero_mul, Int.zero_mul]]
  have : dgA v n i i = v i := by unfold dgA; rw [if_pos ⟨rfl, hi⟩]
  rw [this, Int.mul_assoc]
theorem pd_dg (n : Nat) (v : Nat → Int) : PD n (dgA v n) ↔ ∀ i, i < n → 0 < v i := by
  constructor
  · intro h i hi
    have h1 := h (fun j => if j = i then 1 else 0) ⟨i, hi, by simp⟩
    rw [quad_dg, sumN_one (p := i) hi fun j hj hne => by simp [hne]] at h1
    simpa using h1
  · intro h x ⟨p, hp, hx⟩
    rw [quad_dg]
    exact sumN_pos (fun i hi => Int.mul_nonneg (Int.le_of_lt (h i hi)) (mul_self_nonneg _)) hp (Int.mul_pos (h p hp) (mul_self_pos hx))
/-- The matrix holds v at the first k places of its diagonal, else 0. -/
def Dg (n : Nat) (v : Nat → Int) (k : Nat) (l : List Int) : Prop := rt n l = true ∧ ∀ i j, i < n → j < n → ent n l i j = dgA v k i j
theorem Dg.start {n : Nat} (v : Nat → Int) (h8 : n ≤ 8) : Dg n v 0 (zeros n) := ⟨rt_zeros (by omega) (by omega), fun i j _ _ => by
  unfold ent dgA
  rw [zth_zeros, if_neg (by omega)]⟩
theorem idx_dgB : (List.range 9).all (fun n => (List.range n).all fun k => (List.range n).all fun i => (List.range n).all fun j => !((idx n i j).toNat == (idx n k k).toNat) || (i == k && j == k)) = true := by decide +kernel
theorem idx_dg (n : Nat) (hn : n < 9) (k : Nat) (hk : k < n) (i : Nat) (hi : i < n) (j : Nat) (hj : j < n) (e : (idx n i j).toNat = (idx n k k).toNat) : i = k ∧ j = k := by
  have h := List.all_eq_true.1 idx_dgB n (List.mem_range.2 hn)
  have h := List.all_eq_true.1 h k (List.mem_range.2 hk)
  have h := List.all_eq_true.1 h i (List.mem_range.2 hi)
  have h := List.all_eq_true.1 h j (List.mem_range.2 hj)
  rw [e] at h
  simpa using h
theorem Dg.next {n k : Nat} {v : Nat → Int} {l : List Int} (h : Dg n v k l) (h8 : n ≤ 8) (hk : k < n) (hf : fit (v k) = true) : stC n l k k (v k) = 0 ∧ stN n l k k (v k) = n ∧ Dg n v (k + 1) (stL n l k k (v k)) := by
  have hr : rng (n : Int) k k = true := decide_eq_true (by omega)
  have h0 : stC n l k k (v k) = 0 := by unfold stC; rw [h.1, hr, hf]; rfl
  refine ⟨h0, by unfold stN; rw [if_pos h0], ?_⟩
  have e : stL n l k k (v k) = l.set (idx n k k).toNat (v k) := by unfold stL; rw [if_pos h0]
  rw [e]
  obtain ⟨q, hq, hql, hqe⟩ := idx_nat h.1 hr
  have zs : ∀ i, i < l.length → zth (l.set (idx n k k).toNat (v k)) i = if (idx n k k).toNat = i then v k else zth l i := fun i hi => by
    rw [zth_get (by rw [List.length_set]; exact hi), List.getElem_set]
    split
    · rfl
    · rw [zth_get hi]
  refine ⟨rt_of h.1 (by rw [List.length_set]) (all_yes fun i hi => ?_), fun i j hi hj => ?_⟩
  · rw [List.length_set] at hi
    rw [zs i hi]
    split
    · exact hf
    · exact (rt_spec h.1).2.2.2 i hi
  · obtain ⟨p, hp, hpl, -⟩ := idx_nat h.1 (show rng (n : Int) i j = true from decide_eq_true (by omega))
    unfold ent
    rw [zs _ (by rw [hp]; exact hpl)]
    have h1 := h.2 i j hi hj
    unfold ent at h1
    by_cases hij : i = k ∧ j = k
    · obtain ⟨rfl, rfl⟩ := hij
      rw [if_pos rfl]
      unfold dgA
      rw [if_pos ⟨rfl, by omega⟩]
    · rw [if_neg fun hh => hij (idx_dg n (by omega) k hk i hi j hj hh.symm), h1]
      unfold dgA
      by_cases hc : i = j ∧ i < k
      · rw [if_pos hc, if_pos ⟨hc.1, by omega⟩]
      · rw [if_neg hc, if_neg (by omega)]
theorem Dg.det {n : Nat} {v : Nat → Int} {l : List Int} (h : Dg n v n l) : detV n l = prd v n ∧ detC n l = 0 := by
  refine ⟨?_, by unfold detC; rw [h.1]; rfl⟩
  unfold detV
  rw [h.1, if_pos rfl, ← det_dg]
  exact det_congr fun i j hi hj => (AM_at hi hj).trans (h.2 i j hi hj)
theorem dfV_pd {n : Nat} {l : List Int} (h : rt n l = true) : dfV n l = true ↔ PD n (AM n l) := by
  unfold dfV mnR
  rw [h, if_pos rfl, Bool.and_true, List.all_eq_true]
  refine Iff.trans ?_ (pd_mins (n := n) (q := 1) (by decide) (Good.start fun i j => AM_abs h i j) (AM_symm n l)).symm
  exact ⟨fun h x hx => of_decide_eq_true (h x hx), fun h x hx => decide_eq_true (h x hx)⟩
theorem Dg.df {n : Nat} {v : Nat → Int} {l : List Int} (h : Dg n v n l) : dfV n l = allP v n := by
  rw [Bool.eq_iff_iff, dfV_pd h.1, allP_iff, ← pd_dg]
  exact pd_congr fun i j hi hj => (AM_at hi hj).trans (h.2 i j hi hj)
theorem Big.rowM {w : World} {v : Value} {z : Int} {g : Nat} {C D : Array Value} (h : Big w v z) (hg : Blk w g 24 C) : Big (w.setRow g D) v z := by
  obtain ⟨a, c, h1, a', c', h2, h3, h4⟩ := h
  refine ⟨a, c, h1, a', c', h2, h3, fun h0 => ?_⟩
  obtain ⟨b, E, h5, h6, h7⟩ := h4 h0
  refine ⟨b, E, h5, h6.row_other D ?_, h7⟩
  rintro rfl
  unfold Blk at *
  rw [hg] at h6
  simp at h6
theorem SmO.rowB {w : World} {g : Nat} {v : Value} {N : Int} {l : List Int} {C D : Array Value} (h : SmO w v N l) (hg : Blk w g 59 C) : SmO (w.setRow g D) v N l := by
  obtain ⟨s, base, e, h1, h2⟩ := h
  refine ⟨s, base, e, ⟨h1.1, ?_⟩, h2⟩
  rcases h1.2 with h2 | ⟨b, cap, cur, h1, h2, h3, h4⟩
  · exact .inl h2
  · refine .inr ⟨b, cap, cur, h1, h2, ?_, h4⟩
    have hne : b ≠ g := by
      rintro rfl
      unfold Blk at hg
      rw [h3] at hg
      simp at hg
    exact Blk.row_other (t := 2) h3 D hne
end Go.Proofs.YtdcpoamjmoceiaaDoor
/-
  The reference's numbers out of wide ones.
-/
namespace Go.Proofs.YtdcpoamjmoceiaaDoor
open Go Go.RowKit
set_option maxRecDepth 100000

theorem xor_all {x : Nat} (h : x < 2 ^ 64) : (2 ^ 64 - 1) ^^^ x = 2 ^ 64 - (x + 1) := by
  apply Nat.eq_of_testBit_eq
  intro i
  rw [Nat.testBit_xor, Nat.testBit_two_pow_sub_one, Nat.testBit_two_pow_sub_succ h]
  by_cases hi : i < 64
  · simp [hi]
  · have : x.testBit i = false := Nat.testBit_lt_two_pow (Nat.lt_of_lt_of_le h (Nat.pow_le_pow_right (by decide) (by omega)))
    simp [hi, this]
theorem bits_not {x : Nat} (h : x < 18446744073709551616) : bits BinOp.xor IntKind.u64 IntKind.u64.max (x : Int) = ((18446744073709551615 - x : Nat) : Int) := by
  have h1 := bits_xor_u64_nat 18446744073709551615 x (by decide) h
  have h2 := xor_all (x := x) h
  rw [show (2 ^ 64 - 1 : Nat) = 18446744073709551615 from rfl, show (2 ^ 64 : Nat) = 18446744073709551616 from rfl] at h2
  rw [h2] at h1
  rw [show (IntKind.u64.max : Int) = ((18446744073709551615 : Nat) : Int) from rfl, h1]
  omega
theorem comp_step {S : Nat → Nat} {X A B c r c' i : Nat} (h : sumL S i + c * bp i + A = B) (hB : B = bp i) (hr : r + c' * 18446744073709551616 + X = 18446744073709551615 + c) : sumL (upd S i r) (i + 1) + c' * bp (i + 1) + (A + X * bp i) = bp (i + 1) := by
  subst hB
  rw [sumL_upd_succ, bp_succ]
  have h2 : (r + c' * 18446744073709551616 + X) * bp i = (18446744073709551615 + c) * bp i := by rw [hr]
  have h3 : r * bp i + c' * (bp i * 18446744073709551616) + X * bp i = 18446744073709551615 * bp i + c * bp i := by grind
  omega
end Go.Proofs.YtdcpoamjmoceiaaDoor
/-
  The reference's lengths, and the least wide number's amount.
-/
namespace Go.Proofs.YtdcpoamjmoceiaaDoor
open Go Go.RowKit
set_option maxRecDepth 100000

theorem blen_nl {x : Nat} (h : 0 < nl x) : blen x = 64 * (nl x - 1) + Lib.bitLen (limb x (nl x - 1)) := by
  have h1 := blen_limbs (f := limb x) (n := x) (fun i _ => limb_lt x i) h
  rw [sumL_limb, Nat.mod_eq_of_lt (lt_bp_self x)] at h1
  exact h1
theorem size_am {x : Nat} {v : Value} {w : World} (h : Am w v x) (hx : nl x < 50000) :
    Calls Tryd.prog 79 #[v] w fun e w' => e = .returned (.int .i64 (blen x : Nat)) ∧ Up w w' := by
  obtain ⟨a, c, rfl, hc, hcell⟩ := h.open
  by_cases h0 : nl x = 0
  · have e : blen x = 0 := by
      have : x = 0 := by
        rcases Nat.eq_zero_or_pos x with h1 | h1
        · exact h1
        · have := nl_pos h1; omega
      rw [this]; rfl
    rw [e, h0]
    clear hcell e
    go_enter Tryd.func79, Tryd.ntmps79
    go_wp2
    go_ret
    exact ⟨rfl, (by repeat (first | assumption | (with_reducible apply Up.of) | (with_reducible exact Below.refl _ _) | (with_reducible exact Up.refl _) | ((with_reducible apply bl_setRow); (focus (first | exact Nat.le_refl _ | (simp; done) | (simp; omega) | omega))) | (with_reducible apply below_drewN) | (with_reducible apply Below.drew) | ((with_reducible apply bl_alloc); (focus (first | exact Nat.le_refl _ | (simp; done) | (simp; omega) | omega))) | ((with_reducible apply bl_setCell); (focus (first | exact Nat.le_refl _ | (simp; done) | (simp; omega) | omega))) | ((with_reducible apply up_tr); assumption)))⟩
  · obtain ⟨j, hj⟩ : ∃ j, nl x = j + 1 := ⟨nl x - 1, by omega⟩
    have hb := blen_nl (x := x) (by omega)
    have hl := limb_lt x j
    obtain ⟨b, rfl, hb1, hcb⟩ := hcell j (by omega)
    have hcW := hcb w (Up.refl _)
    rw [hj, Nat.add_sub_cancel] at hb
    have hbl := fun w' => Tryd.bits_Len64 (limb x j : Nat) w' (by omega) (by omega)
    simp only [Int.toNat_natCast] at hbl
    have HB := hid hbl
    have hle : Lib.bitLen (limb x j) ≤ 64 := by
      rcases Nat.eq_zero_or_pos (limb x j) with h1 | h1
      · rw [h1]; decide
      · exact (bitLen_spec hl (by omega)).2.2.2
    rw [hb, hj]
    clear hcell hcb hbl hb
    generalize limb x j = t at *
    generalize Lib.bitLen t = l at *
    go_enter Tryd.func79, Tryd.ntmps79
    go_wp2_with (go_at_call 100; refine (HB.out _).mono ?_; rintro e w' ⟨rfl, rfl⟩)
    go_ret
    exact ⟨ret_int (by omega), (by repeat (first | assumption | (with_reducible apply Up.of) | (with_reducible exact Below.refl _ _) | (with_reducible exact Up.refl _) | ((with_reducible apply bl_setRow); (focus (first | exact Nat.le_refl _ | (simp; done) | (simp; omega) | omega))) | (with_reducible apply below_drewN) | (with_reducible apply Below.drew) | ((with_reducible apply bl_alloc); (focus (first | exact Nat.le_refl _ | (simp; done) | (simp; omega) | omega))) | ((with_reducible apply bl_setCell); (focus (first | exact Nat.le_refl _ | (simp; done) | (simp; omega) | omega))) | ((with_reducible apply up_tr); assumption)))⟩
theorem hb_sum : sumL (upd (fun _ => 0) 15 9223372036854775808) 17 = hb := by
  have h1 := sumL_upd (fun _ => 0) (k := 15) (n := 17) 9223372036854775808 (by decide)
  rw [sumL_zeros] at h1
  unfold hb
  omega
set_option maxHeartbeats 1000000 in
theorem left_hb (b : Nat) (w : World) (hcell : ∀ w', Up w w' → w'.cell? ⟨b, 0, none⟩ = some (.int .u64 1)) (_ : b < w.heap.size) :
    Calls Tryd.prog 81 #[.slice (some ⟨b, 0, none⟩) 1 1, .int .i64 1023] w fun e w' => Up w w' ∧ ∃ v, e = .returned v ∧ Am w' v hb := by
  go_enter Tryd.func81, Tryd.ntmps81
  go_wp2_with (first | ((with_reducible apply mkP (n := 17)); exact rfl; (first | rfl | omega); omega))
  go_loopw [7] (fun ti wr => ∃ (i : Nat) (S : Nat → Nat), i ≤ 1 ∧ ti = .int .i64 (i : Nat) ∧ (i = 0 → S = fun _ => 0) ∧ (i = 1 → S = upd (fun _ => 0) 15 9223372036854775808) ∧ Row wr w.heap.size 62 17 S ∧ Below w.heap.size w wr)
    (fun ti _ => 1 - (intOf ti).toNat)
  case atStart => exact ⟨0, fun _ => 0, by omega, rfl, fun _ => rfl, fun h => by omega, (by (repeat (first | assumption | ((with_reducible apply row_newc); (focus (first | rfl | (simp; done)))) | ((with_reducible apply row_newz); (focus (first | rfl | (simp; done)))) | (with_reducible apply row_same) | ((with_reducible apply row_else); (focus (first | (simp; done) | (simp; omega) | omega))) | (with_reducible apply row_alloc) | (with_reducible apply row_drew) | (with_reducible apply row_drewN) | ((with_reducible apply row_up); assumption)))), (by repeat (first | assumption | (with_reducible apply Up.of) | (with_reducible exact Below.refl _ _) | (with_reducible exact Up.refl _) | ((with_reducible apply bl_setRow); (focus (first | exact Nat.le_refl _ | (simp; done) | (simp; omega) | omega))) | (with_reducible apply below_drewN) | (with_reducible apply Below.drew) | ((with_reducible apply bl_alloc); (focus (first | exact Nat.le_refl _ | (simp; done) | (simp; omega) | omega))) | ((with_reducible apply bl_setCell); (focus (first | exact Nat.le_refl _ | (simp; done) | (simp; omega) | omega))) | ((with_reducible apply up_tr); assumption)))⟩
  case round =>
    obtain ⟨i, S, hi, rfl, hS0, hS1, hS, hB⟩ := hrel
    by_cases hlt : i < 1
    · obtain rfl : i = 0 := by omega
      obtain rfl := hS0 rfl
      have hcx := hcell _ hB
      clear hS0 hS1
      have hc15 := hS.cell 15 (by decide)
      go_wp2
      refine wp_region_upS (S := (fun wq => Row wq w.heap.size 62 17 (fun _ => 0) ∧ wq.cell? ⟨b, 0, none⟩ = some (.int .u64 1) ∧ wq.cell? ⟨w.heap.size, 15, none⟩ = some (.int .u64 0) ∧ Below w.heap.size w wq)) (req := (fun j => j != 15)) (by kernel_rfl) (fun _ _ h hu => ⟨(h.1).up hu, hu.cell (h.2.1), hu.cell (h.2.2.1), below_up (h.2.2.2) hu⟩) ⟨(by (repeat (first | assumption | ((with_reducible apply row_newc); (focus (first | rfl | (simp; done)))) | ((with_reducible apply row_newz); (focus (first | rfl | (simp; done)))) | (with_reducible apply row_same) | ((with_reducible apply row_else); (focus (first | (simp; done) | (simp; omega) | omega))) | (with_reducible apply row_alloc) | (with_reducible apply row_drew) | (with_reducible apply row_drewN) | ((with_reducible apply row_up); assumption)))), (by first | assumption | (apply Blk.cell; (focus (repeat (first | assumption | ((with_reducible apply blk_new); (focus (first | rfl | (simp; done)))) | (with_reducible apply blk_alloc) | (with_reducible apply blk_drew) | (with_reducible apply blk_drewN) | ((with_reducible apply blk_up); assumption) | (with_reducible apply blk_same) | ((with_reducible apply blk_else); (focus (first | (simp; done) | (simp; omega) | omega)))))); exact rfl)), (by first | assumption | (apply Blk.cell; (focus (repeat (first | assumption | ((with_reducible apply blk_new); (focus (first | rfl | (simp; done)))) | (with_reducible apply blk_alloc) | (with_reducible apply blk_drew) | (with_reducible apply blk_drewN) | ((with_reducible apply blk_up); assumption) | (with_reducible apply blk_same) | ((with_reducible apply blk_else); (focus (first | (simp; done) | (simp; omega) | omega)))))); exact rfl)), (by repeat (first | assumption | (with_reducible apply Up.of) | (with_reducible exact Below.refl _ _) | (with_reducible exact Up.refl _) | ((with_reducible apply bl_setRow); (focus (first | exact Nat.le_refl _ | (simp; done) | (simp; omega) | omega))) | (with_reducible apply below_drewN) | (with_reducible apply Below.drew) | ((with_reducible apply bl_alloc); (focus (first | exact Nat.le_refl _ | (simp; done) | (simp; omega) | omega))) | ((with_reducible apply bl_setCell); (focus (first | exact Nat.le_refl _ | (simp; done) | (simp; omega) | omega))) | ((with_reducible apply up_tr); assumption)))⟩ (fun wS hSS => ?_)
      have ⟨hS1, hS2, hS3, hSB⟩ := hSS
      clear hcx hc15 hB
      have e15 : IntKind.i64.wrap 15 = 15 := by rw [IntKind.wrap_i64]; rfl
      have e16 : IntKind.i64.wrap 16 = 16 := by rw [IntKind.wrap_i64]; rfl
      have e63 : IntKind.u64.wrap 9223372036854775808 = 9223372036854775808 := by rw [IntKind.wrap_u64]; rfl
      have eor : bits BinOp.or IntKind.u64 0 9223372036854775808 = 9223372036854775808 := by
        have := bits_or_u64_nat 0 9223372036854775808 (by decide) (by decide)
        rw [Nat.zero_or] at this
        exact this
      have eoz : bits BinOp.or IntKind.u64 0 0 = 0 := by
        have := bits_or_u64_nat 0 0 (by decide) (by decide)
        rw [Nat.zero_or] at this
        exact this
      refine wpAnyU_pure (i := 0) (d := (some 26)) (v := ?_) rfl rfl (by kernel_rfl) (fun _ _ _ h => h) (fun _ _ h hu => ⟨(h.1).up hu, hu.cell (h.2.1), hu.cell (h.2.2.1), below_up (h.2.2.2) hu⟩) (Or.inl ⟨by rfl, fun w' _ => yu_value ?_⟩) ?_
      rotate_left
      · (go_simp; (try exact rfl))
      try simp only [Act.put, List.setIfInBounds_toArray, List.set_cons_zero, List.set_cons_succ]
      refine wpAnyU_pure (i := 1) (d := (some 27)) (v := ?_) rfl rfl (by kernel_rfl) (fun _ _ _ h => h) (fun _ _ h hu => ⟨(h.1).up hu, hu.cell (h.2.1), hu.cell (h.2.2.1), below_up (h.2.2.2) hu⟩) (Or.inl ⟨by rfl, fun w' _ => yu_value ?_⟩) ?_
      rotate_left
      · (go_simp; (try exact rfl))
      try simp only [Act.put, List.setIfInBounds_toArray, List.set_cons_zero, List.set_cons_succ]
      refine wpAnyU_pure (i := 2) (d := (some 28)) (v := ?_) rfl rfl (by kernel_rfl) (fun _ _ _ h => h) (fun _ _ h hu => ⟨(h.1).up hu, hu.cell (h.2.1), hu.cell (h.2.2.1), below_up (h.2.2.2) hu⟩) (Or.inl ⟨by rfl, fun w' _ => yu_value ?_⟩) ?_
      rotate_left
      · (go_simp; (try exact rfl))
      try simp only [Act.put, List.setIfInBounds_toArray, List.set_cons_zero, List.set_cons_succ]
      refine wpAnyU_pure (i := 3) (d := (some 29)) (v := ?_) rfl rfl (by kernel_rfl) (fun _ _ _ h => h) (fun _ _ h hu => ⟨(h.1).up hu, hu.cell (h.2.1), hu.cell (h.2.2.1), below_up (h.2.2.2) hu⟩) (Or.inl ⟨by rfl, fun w' _ => yu_value ?_⟩) ?_
      rotate_left
      · (go_simp; (try exact rfl))
      try simp only [Act.put, List.setIfInBounds_toArray, List.set_cons_zero, List.set_cons_succ]
      refine wpAnyU_pure (i := 4) (d := (some 30)) (v := ?_) rfl rfl (by kernel_rfl) (fun _ _ _ h => h) (fun _ _ h hu => ⟨(h.1).up hu, hu.cell (h.2.1), hu.cell (h.2.2.1), below_up (h.2.2.2) hu⟩) (Or.inl ⟨by rfl, fun w' _ => yu_value ?_⟩) ?_
      rotate_left
      · (go_simp; (try exact rfl))
      try simp only [Act.put, List.setIfInBounds_toArray, List.set_cons_zero, List.set_cons_succ]
      refine wpAnyU_pure (i := 5) (d := (some 31)) (v := ?_) rfl rfl (by kernel_rfl) (fun _ _ _ h => h) (fun _ _ h hu => ⟨(h.1).up hu, hu.cell (h.2.1), hu.cell (h.2.2.1), below_up (h.2.2.2) hu⟩) (Or.inl ⟨by rfl, fun w' _ => yu_value ?_⟩) ?_
      rotate_left
      · (go_simp; (try exact rfl))
      try simp only [Act.put, List.setIfInBounds_toArray, List.set_cons_zero, List.set_cons_succ]
      refine wpAnyU_take (i := 6) (d := (some 32)) (v := ?_) rfl rfl (by kernel_rfl) (fun _ _ _ h => h) (fun _ _ h hu => ⟨(h.1).up hu, hu.cell (h.2.1), hu.cell (h.2.2.1), below_up (h.2.2.2) hu⟩) hSS (Or.inl ⟨by rfl, fun w' hSw => yu_value ?_⟩) ?_
      rotate_left
      · ((try dsimp only at hSw); (try obtain ⟨_, _, _, _⟩ := hSw); go_simp; (try exact rfl))
      try simp only [Act.put, List.setIfInBounds_toArray, List.set_cons_zero, List.set_cons_succ]
      refine wpAnyU_pure (i := 7) (d := (some 33)) (v := ?_) rfl rfl (by kernel_rfl) (fun _ _ _ h => h) (fun _ _ h hu => ⟨(h.1).up hu, hu.cell (h.2.1), hu.cell (h.2.2.1), below_up (h.2.2.2) hu⟩) (Or.inl ⟨by rfl, fun w' _ => yu_value ?_⟩) ?_
      rotate_left
      · (go_simp; (try exact rfl))
      try simp only [Act.put, List.setIfInBounds_toArray, List.set_cons_zero, List.set_cons_succ]
      refine wpAnyU_pure (i := 8) (d := (some 34)) (v := ?_) rfl rfl (by kernel_rfl) (fun _ _ _ h => h) (fun _ _ h hu => ⟨(h.1).up hu, hu.cell (h.2.1), hu.cell (h.2.2.1), below_up (h.2.2.2) hu⟩) (Or.inl ⟨by rfl, fun w' _ => yu_value ?_⟩) ?_
      rotate_left
      · (go_simp; (try exact rfl))
      try simp only [Act.put, List.setIfInBounds_toArray, List.set_cons_zero, List.set_cons_succ]
      refine wpAnyU_pure (i := 9) (d := (some 35)) (v := ?_) rfl rfl (by kernel_rfl) (fun _ _ _ h => h) (fun _ _ h hu => ⟨(h.1).up hu, hu.cell (h.2.1), hu.cell (h.2.2.1), below_up (h.2.2.2) hu⟩) (Or.inl ⟨by rfl, fun w' _ => yu_value ?_⟩) ?_
      rotate_left
      · (go_simp; (try exact rfl))
      try simp only [Act.put, List.setIfInBounds_toArray, List.set_cons_zero, List.set_cons_succ]
      refine wpAnyU_take (i := 10) (d := (some 36)) (v := ?_) rfl rfl (by kernel_rfl) (fun _ _ _ h => h) (fun _ _ h hu => ⟨(h.1).up hu, hu.cell (h.2.1), hu.cell (h.2.2.1), below_up (h.2.2.2) hu⟩) hSS (Or.inl ⟨by rfl, fun w' hSw => yu_value ?_⟩) ?_
      rotate_left
      · ((try dsimp only at hSw); (try obtain ⟨_, _, _, _⟩ := hSw); go_simp; (try exact rfl))
      try simp only [Act.put, List.setIfInBounds_toArray, List.set_cons_zero, List.set_cons_succ]
      refine wpAnyU_pure (i := 11) (d := (some 37)) (v := ?_) rfl rfl (by kernel_rfl) (fun _ _ _ h => h) (fun _ _ h hu => ⟨(h.1).up hu, hu.cell (h.2.1), hu.cell (h.2.2.1), below_up (h.2.2.2) hu⟩) (Or.inl ⟨by rfl, fun w' _ => yu_value ?_⟩) ?_
      rotate_left
      · (go_simp; (try exact rfl))
      try simp only [Act.put, List.setIfInBounds_toArray, List.set_cons_zero, List.set_cons_succ]
      refine wpAnyU_pure (i := 12) (d := (some 38)) (v := ?_) rfl rfl (by kernel_rfl) (fun _ _ _ h => h) (fun _ _ h hu => ⟨(h.1).up hu, hu.cell (h.2.1), hu.cell (h.2.2.1), below_up (h.2.2.2) hu⟩) (Or.inl ⟨by rfl, fun w' _ => yu_value ?_⟩) ?_
      rotate_left
      · (go_simp; (try exact rfl))
      try simp only [Act.put, List.setIfInBounds_toArray, List.set_cons_zero, List.set_cons_succ]
      refine wpAnyU_pure (i := 13) (d := (some 39)) (v := ?_) rfl rfl (by kernel_rfl) (fun _ _ _ h => h) (fun _ _ h hu => ⟨(h.1).up hu, hu.cell (h.2.1), hu.cell (h.2.2.1), below_up (h.2.2.2) hu⟩) (Or.inl ⟨by rfl, fun w' _ => yu_value ?_⟩) ?_
      rotate_left
      · (go_simp; (try exact rfl))
      try simp only [Act.put, List.setIfInBounds_toArray, List.set_cons_zero, List.set_cons_succ]
      refine wpAnyU_pure (i := 14) (d := (some 40)) (v := ?_) rfl rfl (by kernel_rfl) (fun _ _ _ h => h) (fun _ _ h hu => ⟨(h.1).up hu, hu.cell (h.2.1), hu.cell (h.2.2.1), below_up (h.2.2.2) hu⟩) (Or.inl ⟨by rfl, fun w' _ => yu_value ?_⟩) ?_
      rotate_left
      · (go_simp; (try exact rfl))
      try simp only [Act.put, List.setIfInBounds_toArray, List.set_cons_zero, List.set_cons_succ]
      refine wpAnyU_one (i := 15) rfl (by kernel_rfl) (by rfl) fun w1 hw1 => ?_
      have hcW := (hS1.up hw1).cell 15 (by omega)
      have hfW := (hS1.up hw1).frozen 15
      go_simp
      clear hcW hfW
      refine wpAnyU_done (by kernel_rfl) (fun wF huE => ?_) _
      have gS := ((hS1.up hw1).set 15 9223372036854775808).up huE
      have gB := below_up ((below_up hSB hw1).setCell (p := ⟨w.heap.size, 15, none⟩) (Nat.le_refl _) (.int .u64 (9223372036854775808 : Nat))) huE
      clear hS1 hS2 hS3 hSB hSS hw1 huE
      have hcx := hcell _ gB
      have hc16 := gS.cell 16 (by decide)
      rw [show upd (fun _ => 0) 15 9223372036854775808 16 = 0 from rfl] at hc16
      go_wp2
      refine wp_region_upS (S := (fun wq => Row wq w.heap.size 62 17 (upd (fun _ => 0) 15 9223372036854775808) ∧ wq.cell? ⟨b, 0, none⟩ = some (.int .u64 1) ∧ wq.cell? ⟨w.heap.size, 16, none⟩ = some (.int .u64 0) ∧ Below w.heap.size w wq)) (req := (fun j => j != 17)) (by kernel_rfl) (fun _ _ h hu => ⟨(h.1).up hu, hu.cell (h.2.1), hu.cell (h.2.2.1), below_up (h.2.2.2) hu⟩) ⟨(by (repeat (first | assumption | ((with_reducible apply row_newc); (focus (first | rfl | (simp; done)))) | ((with_reducible apply row_newz); (focus (first | rfl | (simp; done)))) | (with_reducible apply row_same) | ((with_reducible apply row_else); (focus (first | (simp; done) | (simp; omega) | omega))) | (with_reducible apply row_alloc) | (with_reducible apply row_drew) | (with_reducible apply row_drewN) | ((with_reducible apply row_up); assumption)))), (by first | assumption | (apply Blk.cell; (focus (repeat (first | assumption | ((with_reducible apply blk_new); (focus (first | rfl | (simp; done)))) | (with_reducible apply blk_alloc) | (with_reducible apply blk_drew) | (with_reducible apply blk_drewN) | ((with_reducible apply blk_up); assumption) | (with_reducible apply blk_same) | ((with_reducible apply blk_else); (focus (first | (simp; done) | (simp; omega) | omega)))))); exact rfl)), (by first | assumption | (apply Blk.cell; (focus (repeat (first | assumption | ((with_reducible apply blk_new); (focus (first | rfl | (simp; done)))) | (with_reducible apply blk_alloc) | (with_reducible apply blk_drew) | (with_reducible apply blk_drewN) | ((with_reducible apply blk_up); assumption) | (with_reducible apply blk_same) | ((with_reducible apply blk_else); (focus (first | (simp; done) | (simp; omega) | omega)))))); exact rfl)), (by repeat (first | assumption | (with_reducible apply Up.of) | (with_reducible exact Below.refl _ _) | (with_reducible exact Up.refl _) | ((with_reducible apply bl_setRow); (focus (first | exact Nat.le_refl _ | (simp; done) | (simp; omega) | omega))) | (with_reducible apply below_drewN) | (with_reducible apply Below.drew) | ((with_reducible apply bl_alloc); (focus (first | exact Nat.le_refl _ | (simp; done) | (simp; omega) | omega))) | ((with_reducible apply bl_setCell); (focus (first | exact Nat.le_refl _ | (simp; done) | (simp; omega) | omega))) | ((with_reducible apply up_tr); assumption)))⟩ (fun wS hSS => ?_)
      have ⟨hS1, hS2, hS3, hSB⟩ := hSS
      clear hcx hc16 gB gS
      refine wpAnyU_pure (i := 0) (d := (some 43)) (v := ?_) rfl rfl (by kernel_rfl) (fun _ _ _ h => h) (fun _ _ h hu => ⟨(h.1).up hu, hu.cell (h.2.1), hu.cell (h.2.2.1), below_up (h.2.2.2) hu⟩) (Or.inl ⟨by rfl, fun w' _ => yu_value ?_⟩) ?_
      rotate_left
      · (go_simp; (try exact rfl))
      try simp only [Act.put, List.setIfInBounds_toArray, List.set_cons_zero, List.set_cons_succ]
      refine wpAnyU_pure (i := 1) (d := (some 44)) (v := ?_) rfl rfl (by kernel_rfl) (fun _ _ _ h => h) (fun _ _ h hu => ⟨(h.1).up hu, hu.cell (h.2.1), hu.cell (h.2.2.1), below_up (h.2.2.2) hu⟩) (Or.inl ⟨by rfl, fun w' _ => yu_value ?_⟩) ?_
      rotate_left
      · (go_simp; (try exact rfl))
      try simp only [Act.put, List.setIfInBounds_toArray, List.set_cons_zero, List.set_cons_succ]
      refine wpAnyU_pure (i := 2) (d := (some 45)) (v := ?_) rfl rfl (by kernel_rfl) (fun _ _ _ h => h) (fun _ _ h hu => ⟨(h.1).up hu, hu.cell (h.2.1), hu.cell (h.2.2.1), below_up (h.2.2.2) hu⟩) (Or.inl ⟨by rfl, fun w' _ => yu_value ?_⟩) ?_
      rotate_left
      · (go_simp; (try exact rfl))
      try simp only [Act.put, List.setIfInBounds_toArray, List.set_cons_zero, List.set_cons_succ]
      refine wpAnyU_pure (i := 3) (d := (some 46)) (v := ?_) rfl rfl (by kernel_rfl) (fun _ _ _ h => h) (fun _ _ h hu => ⟨(h.1).up hu, hu.cell (h.2.1), hu.cell (h.2.2.1), below_up (h.2.2.2) hu⟩) (Or.inl ⟨by rfl, fun w' _ => yu_value ?_⟩) ?_
      rotate_left
      · (go_simp; (try exact rfl))
      try simp only [Act.put, List.setIfInBounds_toArray, List.set_cons_zero, List.set_cons_succ]
      refine wpAnyU_pure (i := 4) (d := (some 47)) (v := ?_) rfl rfl (by kernel_rfl) (fun _ _ _ h => h) (fun _ _ h hu => ⟨(h.1).up hu, hu.cell (h.2.1), hu.cell (h.2.2.1), below_up (h.2.2.2) hu⟩) (Or.inl ⟨by rfl, fun w' _ => yu_value ?_⟩) ?_
      rotate_left
      · (go_simp; (try exact rfl))
      try simp only [Act.put, List.setIfInBounds_toArray, List.set_cons_zero, List.set_cons_succ]
      refine wpAnyU_pure (i := 5) (d := (some 48)) (v := ?_) rfl rfl (by kernel_rfl) (fun _ _ _ h => h) (fun _ _ h hu => ⟨(h.1).up hu, hu.cell (h.2.1), hu.cell (h.2.2.1), below_up (h.2.2.2) hu⟩) (Or.inl ⟨by rfl, fun w' _ => yu_value ?_⟩) ?_
      rotate_left
      · (go_simp; (try exact rfl))
      try simp only [Act.put, List.setIfInBounds_toArray, List.set_cons_zero, List.set_cons_succ]
      refine wpAnyU_pure (i := 6) (d := (some 49)) (v := ?_) rfl rfl (by kernel_rfl) (fun _ _ _ h => h) (fun _ _ h hu => ⟨(h.1).up hu, hu.cell (h.2.1), hu.cell (h.2.2.1), below_up (h.2.2.2) hu⟩) (Or.inl ⟨by rfl, fun w' _ => yu_value ?_⟩) ?_
      rotate_left
      · (go_simp; (try exact rfl))
      try simp only [Act.put, List.setIfInBounds_toArray, List.set_cons_zero, List.set_cons_succ]
      refine wpAnyU_take (i := 7) (d := (some 50)) (v := ?_) rfl rfl (by kernel_rfl) (fun _ _ _ h => h) (fun _ _ h hu => ⟨(h.1).up hu, hu.cell (h.2.1), hu.cell (h.2.2.1), below_up (h.2.2.2) hu⟩) hSS (Or.inl ⟨by rfl, fun w' hSw => yu_value ?_⟩) ?_
      rotate_left
      · ((try dsimp only at hSw); (try obtain ⟨_, _, _, _⟩ := hSw); go_simp; (try exact rfl))
      try simp only [Act.put, List.setIfInBounds_toArray, List.set_cons_zero, List.set_cons_succ]
      refine wpAnyU_pure (i := 8) (d := (some 51)) (v := ?_) rfl rfl (by kernel_rfl) (fun _ _ _ h => h) (fun _ _ h hu => ⟨(h.1).up hu, hu.cell (h.2.1), hu.cell (h.2.2.1), below_up (h.2.2.2) hu⟩) (Or.inl ⟨by rfl, fun w' _ => yu_value ?_⟩) ?_
      rotate_left
      · (go_simp; (try exact rfl))
      try simp only [Act.put, List.setIfInBounds_toArray, List.set_cons_zero, List.set_cons_succ]
      refine wpAnyU_pure (i := 9) (d := (some 52)) (v := ?_) rfl rfl (by kernel_rfl) (fun _ _ _ h => h) (fun _ _ h hu => ⟨(h.1).up hu, hu.cell (h.2.1), hu.cell (h.2.2.1), below_up (h.2.2.2) hu⟩) (Or.inl ⟨by rfl, fun w' _ => yu_value ?_⟩) ?_
      rotate_left
      · (go_simp; (try exact rfl))
      try simp only [Act.put, List.setIfInBounds_toArray, List.set_cons_zero, List.set_cons_succ]
      refine wpAnyU_pure (i := 10) (d := (some 53)) (v := ?_) rfl rfl (by kernel_rfl) (fun _ _ _ h => h) (fun _ _ h hu => ⟨(h.1).up hu, hu.cell (h.2.1), hu.cell (h.2.2.1), below_up (h.2.2.2) hu⟩) (Or.inl ⟨by rfl, fun w' _ => yu_value ?_⟩) ?_
      rotate_left
      · (go_simp; (try exact rfl))
      try simp only [Act.put, List.setIfInBounds_toArray, List.set_cons_zero, List.set_cons_succ]
      refine wpAnyU_take (i := 11) (d := (some 54)) (v := ?_) rfl rfl (by kernel_rfl) (fun _ _ _ h => h) (fun _ _ h hu => ⟨(h.1).up hu, hu.cell (h.2.1), hu.cell (h.2.2.1), below_up (h.2.2.2) hu⟩) hSS (Or.inl ⟨by rfl, fun w' hSw => yu_value ?_⟩) ?_
      rotate_left
      · ((try dsimp only at hSw); (try obtain ⟨_, _, _, _⟩ := hSw); go_simp; (try exact rfl))
      try simp only [Act.put, List.setIfInBounds_toArray, List.set_cons_zero, List.set_cons_succ]
      refine wpAnyU_pure (i := 12) (d := (some 55)) (v := ?_) rfl rfl (by kernel_rfl) (fun _ _ _ h => h) (fun _ _ h hu => ⟨(h.1).up hu, hu.cell (h.2.1), hu.cell (h.2.2.1), below_up (h.2.2.2) hu⟩) (Or.inl ⟨by rfl, fun w' _ => yu_value ?_⟩) ?_
      rotate_left
      · (go_simp; (try exact rfl))
      try simp only [Act.put, List.setIfInBounds_toArray, List.set_cons_zero, List.set_cons_succ]
      refine wpAnyU_pure (i := 13) (d := (some 56)) (v := ?_) rfl rfl (by kernel_rfl) (fun _ _ _ h => h) (fun _ _ h hu => ⟨(h.1).up hu, hu.cell (h.2.1), hu.cell (h.2.2.1), below_up (h.2.2.2) hu⟩) (Or.inl ⟨by rfl, fun w' _ => yu_value ?_⟩) ?_
      rotate_left
      · (go_simp; (try exact rfl))
      try simp only [Act.put, List.setIfInBounds_toArray, List.set_cons_zero, List.set_cons_succ]
      refine wpAnyU_pure (i := 14) (d := (some 57)) (v := ?_) rfl rfl (by kernel_rfl) (fun _ _ _ h => h) (fun _ _ h hu => ⟨(h.1).up hu, hu.cell (h.2.1), hu.cell (h.2.2.1), below_up (h.2.2.2) hu⟩) (Or.inl ⟨by rfl, fun w' _ => yu_value ?_⟩) ?_
      rotate_left
      · (go_simp; (try exact rfl))
      try simp only [Act.put, List.setIfInBounds_toArray, List.set_cons_zero, List.set_cons_succ]
      refine wpAnyU_pure (i := 15) (d := (some 58)) (v := ?_) rfl rfl (by kernel_rfl) (fun _ _ _ h => h) (fun _ _ h hu => ⟨(h.1).up hu, hu.cell (h.2.1), hu.cell (h.2.2.1), below_up (h.2.2.2) hu⟩) (Or.inl ⟨by rfl, fun w' _ => yu_value ?_⟩) ?_
      rotate_left
      · (go_simp; (try exact rfl))
      try simp only [Act.put, List.setIfInBounds_toArray, List.set_cons_zero, List.set_cons_succ]
      refine wpAnyU_pure (i := 16) (d := (some 59)) (v := ?_) rfl rfl (by kernel_rfl) (fun _ _ _ h => h) (fun _ _ h hu => ⟨(h.1).up hu, hu.cell (h.2.1), hu.cell (h.2.2.1), below_up (h.2.2.2) hu⟩) (Or.inl ⟨by rfl, fun w' _ => yu_value ?_⟩) ?_
      rotate_left
      · (go_simp; (try exact rfl))
      try simp only [Act.put, List.setIfInBounds_toArray, List.set_cons_zero, List.set_cons_succ]
      refine wpAnyU_one (i := 17) rfl (by kernel_rfl) (by rfl) fun w1 hw1 => ?_
      have hcW := (hS1.up hw1).cell 16 (by omega)
      have hfW := (hS1.up hw1).frozen 16
      go_simp
      clear hcW hfW
      refine wpAnyU_done (by kernel_rfl) (fun wF huE => ?_) _
      have gS := ((hS1.up hw1).set 16 0).up huE
      have gB := below_up ((below_up hSB hw1).setCell (p := ⟨w.heap.size, 16, none⟩) (Nat.le_refl _) (.int .u64 (0 : Nat))) huE
      clear hS1 hS2 hS3 hSB hSS hw1 huE
      go_wp2
      go_roundw
      case rel => exact ⟨1, _, by omega, rfl, fun h => by omega, fun _ => rfl, gS.congr fun i _ => by unfold upd; split <;> (first | rfl | (subst_vars; rfl) | simp_all), gB⟩
      case measure => simp [intOf]
    · obtain rfl : i = 1 := by omega
      obtain rfl := hS1 rfl
      clear hS0 hS1
      have hSb : ∀ j, j < 17 → upd (fun _ => 0) 15 9223372036854775808 j < 18446744073709551616 := upd_lt (fun _ _ => by simp) (by decide)
      have ht := trim_row w.heap.size 17 17 17 (upd (fun _ => 0) 15 9223372036854775808) wr hS (Nat.le_refl _) (Nat.le_refl _) (by omega)
      have hres := am_row (c := 17) hS (Nat.le_refl _) (Nat.le_refl _) hSb
      rw [hb_sum] at hres
      have HT := hid ht
      have HR := hid hres
      clear ht hres hSb hS
      generalize lenL (upd (fun _ => 0) 15 9223372036854775808) 17 = n at *
      go_wp2_with (go_at_call 55; (with_reducible refine HT.out.mono ?_); rintro e w' ⟨rfl, hu⟩)
      go_ret
      exact ⟨below_up hB hu, _, rfl, HR.out.up hu⟩
end Go.Proofs.YtdcpoamjmoceiaaDoor
/-
  The reference's wide numbers out of whole ones.
-/
namespace Go.Proofs.YtdcpoamjmoceiaaDoor
open Go Go.RowKit
set_option maxRecDepth 100000

theorem blen_small {x : Nat} (h : x < hb) : blen x < 1024 := by
  obtain ⟨c, hc⟩ : ∃ c, c = 1023 := ⟨_, rfl⟩
  rw [hb_pow c hc] at h
  rcases Nat.lt_or_ge (blen x) 1024 with h1 | h1
  · exact h1
  · have h0 : x ≠ 0 := fun e => by subst e; simp [blen] at h1
    have h2 := blen_le h0
    have h3 : 2 ^ c ≤ 2 ^ (blen x - 1) := Nat.pow_le_pow_right (by decide) (by omega)
    omega
theorem blen_mid {x : Nat} (h1 : hb ≤ x) (h2 : x < bp 16) : blen x = 1024 := by
  obtain ⟨c, hc⟩ : ∃ c, c = 1023 := ⟨_, rfl⟩
  have h3 := bp16
  rw [hb_pow c hc] at h1 h3
  have := blen_of (x := x) (k := c) h1 (by rw [Nat.pow_succ]; omega)
  omega
theorem blen_over {x : Nat} (h : bp 16 ≤ x) : 1024 < blen x := by
  obtain ⟨c, hc⟩ : ∃ c, c = 1024 := ⟨_, rfl⟩
  have h3 := bp_two 16
  rw [show 64 * 16 = c by omega] at h3
  rw [h3] at h
  rcases Nat.lt_or_ge 1024 (blen x) with h1 | h1
  · exact h1
  · have h2 := blen_lt x
    have h4 : 2 ^ blen x ≤ 2 ^ c := Nat.pow_le_pow_right (by decide) (by omega)
    omega
theorem wp_copy {K : Act → World → Prop} {Q : Exit → Act → World → Prop} {a : Act} {w : World} {o : Oper} {d s : Operand} {x g c : Nat} {sp : Option Addr} (hgd : o.guard = none) (ho : o.op = .call { callee := .builtin .copy, args := #[d, s], argTypes := #[57, 57] })
    (hd : a.eval d = .slice (some ⟨g, 0, none⟩) 16 16) (hs : a.eval s = .slice sp (nl x) c) (hA : Am w (.slice sp (nl x) c) x) (hx : nl x ≤ 16) (hg : Row w g 64 16 (fun _ => 0))
    (h : ∀ w', Row w' g 64 16 (limb x) → Below g w w' → K (a.put o.dst (goInt (nl x))) w') : o.wp Tryd.prog a w K Q := by
  obtain ⟨a', c', he, hc, hC⟩ := hA
  obtain ⟨rfl, rfl⟩ : sp = a' ∧ c = c' := by simpa using he
  have hlen : ((cells 16 (limb x)).toList.take (nl x)).length = nl x := by simp [cells_size]; omega
  have hiU : (Tryd.prog.info? 62).map (·.size) = some 1 := by
    have := infoU
    cases hq : Tryd.prog.info? 62 with
    | none => rw [hq] at this; simp at this
    | some i =>
      rw [hq] at this
      simp only [Option.map_some, Option.some.injEq, Prod.mk.injEq] at this
      simp [this.2.1]
  have hcs : ∀ j v, ((cells 16 (limb x)).toList.take (nl x))[j]? = some v → j < nl x ∧ v = .int .u64 (limb x j : Nat) := fun j v hj => by
    have h1 : j < nl x := by
      have := (List.getElem?_eq_some_iff.1 hj).1
      rw [hlen] at this
      exact this
    rw [List.getElem?_take_of_lt h1, Array.getElem?_toList, cells_get 16 _ j (by omega)] at hj
    cases hj
    exact ⟨h1, rfl⟩
  have hst := step_copy_splice (P := Tryd.prog) (ops := #[]) (o := o) (a := a) (w := w) (K := K) (Q := Q) (E := True) hgd d s 57 57 ho 62 undS hiU (some ⟨g, 0, none⟩) sp 16 16 (nl x) c hd hs g 0 (cells 16 (fun _ => 0)).toList 64 hg ((cells 16 (limb x)).toList.take (nl x)) (by rw [hlen]; exact (Nat.min_eq_left hx).symm)
    (fun h0 => by
      rw [hlen] at h0
      obtain ⟨b, C, rfl, hB, hC'⟩ := hC h0
      refine ⟨rfl, _, rfl, fun j v hj => ?_⟩
      obtain ⟨h1, rfl⟩ := hcs j v hj
      have hadd : (⟨b, 0, none⟩ : Addr).add j = ⟨b, j, none⟩ := by unfold Addr.add; split <;> simp_all
      rw [hadd]
      exact hB.cell j (hC' j h1))
    (by rw [hlen]; simp [cells_size]; omega)
    (fun v hv => by
      obtain ⟨j, hj⟩ := List.mem_iff_getElem?.1 hv
      obtain ⟨_, rfl⟩ := hcs j v hj
      rfl) g w (Below.refl _ _) (Nat.le_refl _)
    (fun w' h1 h2 => by
      rw [hlen]
      refine h w' ?_ h2
      have h3 := h1.out
      unfold Row Blk
      rw [h3]
      congr 2
      apply Array.ext
      · rw [List.size_toArray, length_splice _ _ _ (by rw [hlen]; simp [cells_size]; omega)]; simp [cells_size]
      · intro i hi1 hi2
        rw [cells_size] at hi2
        have e1 : (splice (cells 16 (fun _ => 0)).toList 0 ((cells 16 (limb x)).toList.take (nl x)))[i]? = some (.int .u64 (limb x i : Nat)) := by
          unfold splice
          rw [hlen, List.take_zero, List.nil_append, Nat.zero_add]
          by_cases hin : i < nl x
          · rw [List.getElem?_append_left (by rw [hlen]; exact hin), List.getElem?_take_of_lt hin, Array.getElem?_toList, cells_get 16 _ i hi2]
          · rw [List.getElem?_append_right (by rw [hlen]; omega), hlen, List.getElem?_drop, Array.getElem?_toList, show nl x + (i - nl x) = i by omega, cells_get 16 _ i hi2, limb_nl (by omega)]
        have e2 := cells_get 16 (limb x) i hi2
        have e3 : (splice (cells 16 (fun _ => 0)).toList 0 ((cells 16 (limb x)).toList.take (nl x))).toArray[i]? = (cells 16 (limb x))[i]? := by rw [e2, List.getElem?_toArray, e1]
        rw [Array.getElem?_eq_getElem hi1, Array.getElem?_eq_getElem (by rw [cells_size]; exact hi2)] at e3
        exact Option.some.inj e3)
  rw [if_pos (by simp [Region.wanted, hgd])] at hst
  exact hst
end Go.Proofs.YtdcpoamjmoceiaaDoor
