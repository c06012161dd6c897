import Derived.Test.YtjoenldfjggciaaGreatDoorPd
import Derived.Lib.AppendZeros
import Derived.Lib.AppendZerosOnto
namespace Go.Proofs.YtjoenldfjggciaaGreatDoor
open Go Go.RowKit
set_option maxRecDepth 100000
def rowE (n : Nat) (l : List Int) (i : Nat) : List Int := mk n fun j => ent n l i j
def sqE (n : Nat) (l : List Int) : List (List Int) := (List.range n).map fun i => rowE n l i
theorem mk_take_succ {n : Nat} (f : Nat → Int) {j : Nat} (hj : j < n) : (mk n f).take (j + 1) = (mk n f).take j ++ [f j] := by
  unfold mk
  rw [take_map_succ f (List.range n) 0 (by simpa using hj), List.getD_eq_getElem?_getD, List.getElem?_range hj]
  rfl
theorem sqE_take_succ (n : Nat) (l : List Int) {i : Nat} (hi : i < n) : (sqE n l).take (i + 1) = (sqE n l).take i ++ [rowE n l i] := by
  unfold sqE
  rw [take_map_succ _ (List.range n) 0 (by simpa using hi), List.getD_eq_getElem?_getD, List.getElem?_range hi]
  rfl
theorem at_right {v : Value} {n : Nat} {l : List Int} {i j : Nat} {w : World} (hm : Sm w v n l) (hR : rt n l = true) (hi : i < n) (hj : j < n) :
    Calls Tryz.prog 98 #[v, .int .i64 (i : Nat), .int .i64 (j : Nat)] w fun r w' => r = .returned (.tuple #[.int .i64 (ent n l i j), .nilIface]) ∧ Up w w' := by
  have hr : rng (n : Int) i j = true := decide_eq_true (by omega)
  have h0 : atC (n : Int) l i j = 0 := by unfold atC; rw [hR, if_pos rfl, hr, if_pos rfl]
  have h1 : atV (n : Int) l i j = ent n l i j := by unfold atV; rw [if_pos h0]
  refine (at_any (i : Int) (j : Int) hm).mono ?_
  rintro r w' ⟨u, rfl, hu, he⟩
  rw [h0] at he
  rw [h1]
  rcases he with ⟨-, h⟩ | ⟨h, -⟩
  · subst h; exact ⟨rfl, hu⟩
  · exact absurd rfl h
theorem ent_i64 {n : Nat} {l : List Int} (hR : rt n l = true) {i j : Nat} (hi : i < n) (hj : j < n) : I64 (ent n l i j) := by
  obtain ⟨k, _, hk, he⟩ := idx_nat hR (show rng (n : Int) i j = true from decide_eq_true (by omega))
  rw [he]
  exact fit_i64 ((rt_spec hR).2.2.2 k hk)
set_option maxHeartbeats 8000000 in
theorem square_any {v : Value} {n : Nat} {l : List Int} {w : World} (hm : Sm w v n l) (hR : rt n l = true) :
    Calls Tryz.prog 55 #[v] w fun r w' => ∃ z, r = .returned z ∧ Up w w' ∧ ∃ b, w.heap.size ≤ b ∧ OwnR w' b z (sqE n l) := by
  have n8 : n ≤ 8 := by have := (rt_spec hR).2.1; omega
  have HAT := hid (fun (i j : Nat) (hi : i < n) (hj : j < n) w' (hu : Up w w') => at_right (hm.up hu) hR hi hj)
  have HO := hid (fun (i j : Nat) (hi : i < n) (hj : j < n) w => of_any (ent n l i j) (ent_i64 hR hi hj).1 (ent_i64 hR hi hj).2 w)
  obtain ⟨s, rfl, ⟨p, cap, rfl, hcap, hc⟩, hN, hl, hlen⟩ := hm
  obtain ⟨wS, hwS⟩ : ∃ x, w.alloc (.cells #[.int .i64 (n : Int), .slice p l.length cap] 24) = x := ⟨_, rfl⟩
  have hB : Blk wS w.heap.size 24 #[.int .i64 (n : Int), .slice p l.length cap] := by rw [← hwS]; exact Blk.new _ _ rfl
  have hU : Up w wS := by rw [← hwS]; exact Up.alloc _ _
  have hc0 := hB.cell 0 rfl
  have hsl : (sqE n l).length = n := by unfold sqE; simp
  have HSL := hid hsl
  have HTR := hid (fun i (hi : i < n) => sqE_take_succ n l hi)
  have HTE := hid (fun i j (hj : j < n) => mk_take_succ (n := n) (fun j => ent n l i j) hj)
  clear hc hl hlen hR hsl hN
  unfold wideV at *
  go_enter Tryz.func55, Tryz.ntmps55
  go_wp2_with fail
  clear hwS hc0
  go_loopg [3, 11] n (fun g tr ti wr => ∃ i : Nat, i ≤ n ∧ n - i ≤ g ∧ ti = .int .i64 (i : Nat) ∧ OwnR wr wS.heap.size tr ((sqE n l).take i) ∧ Up wS wr)
  case atStart => exact ⟨0, Nat.zero_le _, by omega, rfl, by rw [List.take_zero]; exact OwnR.nil _ _, Up.refl _⟩
  case round =>
    obtain ⟨i, hi, hig, rfl, hO, hu⟩ := hrel
    have hc0 := (hB.up hu).cell 0 rfl
    by_cases hlt : i < n
    · have e1 : IntKind.i64.wrap ((i : Int) + 1) = (i : Int) + 1 := IntWalk.i64_in _ (by omega)
      go_wp2_with fail
      obtain ⟨wO, hwO⟩ : ∃ y, wr = y := ⟨_, rfl⟩
      rw [hwO] at hO hu hc0 ⊢
      clear hwO
      go_loopg [5, 16] n (fun g te tj wr => ∃ j : Nat, j ≤ n ∧ n - j ≤ g ∧ tj = .int .i64 (j : Nat) ∧ OwnW wr wO.heap.size te ((rowE n l i).take j) ∧ Up wO wr)
      case atStart => exact ⟨0, Nat.zero_le _, by omega, rfl, by rw [List.take_zero]; exact OwnW.nil _ _, Up.refl _⟩
      case round =>
        clear hc0
        obtain ⟨j, hj, hjg, rfl, hE, huj⟩ := hrel
        have hBj := hB.up (hu.trans huj)
        have hc0 := hBj.cell 0 rfl
        by_cases hjlt : j < n
        · have e2 : IntKind.i64.wrap ((j : Int) + 1) = (j : Int) + 1 := IntWalk.i64_in _ (by omega)
          have HA := hid (fun w' (hu' : Up wr w') => HAT.out i j hlt hjlt w' (hU.trans ((hu.trans huj).trans hu')))
          have HOf := hid (HO.out i j hlt hjlt)
          have HT9 := hid (HTE.out i j hjlt)
          have HTk : Hid (((rowE n l i).take j).length < 1000000) := hid (by rw [List.length_take]; omega)
          have hszj := huj.size
          generalize ent n l i j = z at *
          go_wp2_with (first
            | ((with_reducible apply ldM_P); exact rfl; exact rfl; exact hBj; exact rfl)
            | (go_at_call 98; (with_reducible refine (HA.out _ (Up.refl _)).mono ?_); rintro r w2 ⟨rfl, hu2⟩; have hs2 := hu2.size)
            | (go_at_call 54; (with_reducible refine (HOf.out _).mono ?_); rintro r w3 ⟨rfl, hu3⟩; have hs3 := hu3.size)
            | ((with_reducible apply bsW_P); exact rfl)
            | ((with_reducible apply appW (l := (rowE n l i).take j) (m := [z])); exact rfl; exact rfl; exact OwnW.up ((hu2.trans hu3).trans (Up.alloc _ _)) hE; exact one_range rfl; (focus (simp; omega)); exact HTk.out; (focus (simp; done)); rintro v6 w6 hO6 - hb6))
          go_roundg (n - (j + 1))
          case measure => omega
          case rel => exact ⟨j + 1, hjlt, Nat.le_refl _, rfl, by rw [show rowE n l i = mk n fun j => ent n l i j from rfl, HT9.out]; exact hO6, Below.trans (huj.trans ((hu2.trans hu3).trans (Up.alloc _ _))) hb6⟩
        · obtain rfl : j = n := by omega
          rw [List.take_of_length_le (by show (mk _ _).length ≤ _; rw [mk_len]; exact Nat.le_refl _)] at hE
          obtain ⟨pe, ce, rfl⟩ := hE.slice
          have HT9 := hid (HTR.out i hlt)
          have HTk : Hid (((sqE j l).take i).length < 1000000) := hid (by rw [List.length_take]; omega)
          have hszj := huj.size
          have hszu := hu.size
          go_wp2_with (first
            | ((with_reducible apply appR (r := rowE j l i)); exact rfl; exact rfl; exact OwnR.up (huj.trans (Up.alloc _ _)) hO; exact (Blk.new _ _ rfl).cell 0 rfl; exact (hE.up (Up.alloc _ _)).wb (by omega); (focus (simp; omega)); exact HTk.out; rintro v6 w6 hO6 - hb6))
          go_roundg (j - (i + 1))
          case measure => omega
          case rel => exact ⟨i + 1, hlt, Nat.le_refl _, rfl, by rw [HT9.out]; exact hO6, Below.trans ((hu.trans huj).trans (Up.alloc _ _)) hb6⟩
    · obtain rfl : i = n := by omega
      rw [List.take_of_length_le (by rw [HSL.out]; exact Nat.le_refl _)] at hO
      go_wp2_with fail
      go_ret
      exact ⟨_, rfl, hU.trans hu, _, hU.size, hO⟩
end Go.Proofs.YtjoenldfjggciaaGreatDoor
namespace Go.Proofs.YtjoenldfjggciaaGreatDoor
def sk (i r : Nat) : Nat := if r < i then r else r + 1
def sg (i : Nat) : Int := if i % 2 = 0 then 1 else -1
def sumN : Nat → (Nat → Int) → Int
  | 0, _ => 0
  | n + 1, f => sumN n f + f n
def det : Nat → (Nat → Nat → Int) → Int
  | 0, _ => 1
  | n + 1, A => sumN (n + 1) fun i => sg i * A i 0 * det n fun r c => A (sk i r) (c + 1)
theorem sumN_congr {n : Nat} {f g : Nat → Int} (h : ∀ i, i < n → f i = g i) : sumN n f = sumN n g := by
  induction n with
  | zero => rfl
  | succ n ih => unfold sumN; rw [ih fun i hi => h i (by omega), h n (by omega)]
theorem sumN_lin {n : Nat} {f g k : Nat → Int} {x y : Int} (h : ∀ i, i < n → f i = x * g i + y * k i) : sumN n f = x * sumN n g + y * sumN n k := by
  induction n with
  | zero => simp [sumN]
  | succ n ih => unfold sumN; rw [ih fun i hi => h i (by omega), h n (by omega)]; grind
theorem sumN_zero {n : Nat} {f : Nat → Int} (h : ∀ i, i < n → f i = 0) : sumN n f = 0 := by
  induction n with
  | zero => rfl
  | succ n ih => unfold sumN; rw [ih fun i hi => h i (by omega), h n (by omega)]; rfl
theorem sumN_one {n p : Nat} {f : Nat → Int} (hp : p < n) (h : ∀ i, i < n → i ≠ p → f i = 0) : sumN n f = f p := by
  induction n with
  | zero => omega
  | succ n ih =>
    unfold sumN
    by_cases e : p = n
    · subst e; rw [sumN_zero fun i hi => h i (by omega) (by omega)]; omega
    · rw [ih (by omega) fun i hi => h i (by omega), h n (by omega) (by omega)]; omega
theorem sumN_two {n p : Nat} {f : Nat → Int} (hp : p + 1 < n) (h : ∀ i, i < n → i ≠ p → i ≠ p + 1 → f i = 0) (h2 : f p + f (p + 1) = 0) : sumN n f = 0 := by
  induction n with
  | zero => omega
  | succ n ih =>
    unfold sumN
    by_cases e : p + 1 = n
    · rw [← e, sumN_one (f := f) (p := p) (n := p + 1) (by omega) fun i hi h1 => h i (by omega) h1 (by omega)]; exact h2
    · rw [ih (by omega) fun i hi => h i (by omega), h n (by omega) (by omega) (by omega)]; rfl
theorem sumN_head {n : Nat} {f : Nat → Int} : sumN (n + 1) f = f 0 + sumN n fun i => f (i + 1) := by
  induction n with
  | zero => simp [sumN]
  | succ n ih => rw [show sumN (n + 1 + 1) f = sumN (n + 1) f + f (n + 1) from rfl, ih]; show _ = f 0 + (sumN n _ + f (n + 1)); omega
theorem sk_lt {n i r : Nat} (hr : r < n) : sk i r < n + 1 := by unfold sk; split <;> omega
theorem sk_ne (i r : Nat) : sk i r ≠ i := by unfold sk; split <;> omega
theorem det_congr {n : Nat} {A B : Nat → Nat → Int} (h : ∀ i j, i < n → j < n → A i j = B i j) : det n A = det n B := by
  induction n generalizing A B with
  | zero => rfl
  | succ n ih =>
    unfold det
    exact sumN_congr fun i hi => by rw [h i 0 hi (by omega), ih fun r c hr hc => h _ _ (sk_lt hr) (by omega)]
def updR (A : Nat → Nat → Int) (p : Nat) (u : Nat → Int) : Nat → Nat → Int := fun r c => if r = p then u c else A r c
theorem updR_minor {A : Nat → Nat → Int} {p i : Nat} {u : Nat → Int} (h : i ≠ p) :
    (fun r c => updR A p u (sk i r) (c + 1)) = updR (fun r c => A (sk i r) (c + 1)) (if p < i then p else p - 1) fun c => u (c + 1) := by
  funext r c
  unfold updR
  have : sk i r = p ↔ r = (if p < i then p else p - 1) := by unfold sk; split <;> split <;> omega
  by_cases e : sk i r = p
  · rw [if_pos e, if_pos (this.1 e)]
  · rw [if_neg e, if_neg (fun x => e (this.2 x))]
theorem updR_own {A : Nat → Nat → Int} {p : Nat} {u : Nat → Int} :
    (fun r c => updR A p u (sk p r) (c + 1)) = fun r c => A (sk p r) (c + 1) := by
  funext r c
  unfold updR
  rw [if_neg (sk_ne p r)]
theorem det_lin {n p : Nat} (hp : p < n) (A : Nat → Nat → Int) (x y : Int) (u v : Nat → Int) :
    det n (updR A p fun c => x * u c + y * v c) = x * det n (updR A p u) + y * det n (updR A p v) := by
  induction n generalizing A p u v with
  | zero => omega
  | succ n ih =>
    unfold det
    refine sumN_lin fun i hi => ?_
    by_cases e : i = p
    · subst e
      rw [updR_own, updR_own, updR_own]
      unfold updR
      simp only [if_true]
      grind
    · rw [updR_minor e, updR_minor e, updR_minor e, ih (p := if p < i then p else p - 1) (by split <;> omega)]
      unfold updR
      rw [if_neg e, if_neg e, if_neg e]
      grind
theorem det_next {n p : Nat} (hp : p + 1 < n) {A : Nat → Nat → Int} (h : ∀ c, A p c = A (p + 1) c) : det n A = 0 := by
  induction n generalizing A p with
  | zero => omega
  | succ n ih =>
    unfold det
    refine sumN_two hp (fun i hi h1 h2 => ?_) ?_
    · by_cases e : i < p
      · rw [ih (p := p - 1) (by omega) (fun c => by
          rw [show sk i (p - 1) = p from by unfold sk; split <;> omega, show sk i (p - 1 + 1) = p + 1 from by unfold sk; split <;> omega]; exact h _)]
        grind
      · rw [ih (p := p) (by omega) (fun c => by
          rw [show sk i p = p from by unfold sk; split <;> omega, show sk i (p + 1) = p + 1 from by unfold sk; split <;> omega]; exact h _)]
        grind
    · have e : (fun r c => A (sk p r) (c + 1)) = fun r c => A (sk (p + 1) r) (c + 1) := by
        funext r c
        by_cases e : r = p
        · rw [show sk p r = p + 1 from by unfold sk; split <;> omega, show sk (p + 1) r = p from by unfold sk; split <;> omega, h]
        · rw [show sk p r = sk (p + 1) r from by unfold sk; split <;> split <;> omega]
      rw [e, h 0]
      have e2 : sg (p + 1) = - sg p := by unfold sg; split <;> split <;> omega
      rw [e2]
      grind
theorem updR_comm {A : Nat → Nat → Int} {p q : Nat} (h : p ≠ q) (u v : Nat → Int) : updR (updR A p u) q v = updR (updR A q v) p u := by
  funext r c
  unfold updR
  split <;> split <;> first | rfl | omega
theorem updR_self (A : Nat → Nat → Int) (p : Nat) : updR A p (A p) = A := by
  funext r c
  unfold updR
  split <;> simp_all
theorem updR_at (A : Nat → Nat → Int) (p : Nat) (u : Nat → Int) : updR A p u p = u := by
  funext c
  unfold updR
  simp
theorem updR_off {A : Nat → Nat → Int} {p r : Nat} (u : Nat → Int) (h : r ≠ p) : updR A p u r = A r := by
  funext c
  unfold updR
  simp [h]
theorem swap_of {n p q : Nat} (hp : p < n) (hq : q < n) (hpq : p ≠ q)
    (h0 : ∀ A : Nat → Nat → Int, (∀ c, A p c = A q c) → det n A = 0) (A : Nat → Nat → Int) :
    det n (updR (updR A p (A q)) q (A p)) = - det n A := by
  have key : ∀ u v : Nat → Int, det n (updR (updR A p u) q v) + det n (updR (updR A p v) q u) = 0 := fun u v => by
    have z1 := h0 (updR (updR A p fun c => 1 * u c + 1 * v c) q fun c => 1 * u c + 1 * v c) (fun c => by rw [updR_off _ hpq, updR_at, updR_at])
    have z2 := h0 (updR (updR A p u) q u) (fun c => by rw [updR_off _ hpq, updR_at, updR_at])
    have z3 := h0 (updR (updR A p v) q v) (fun c => by rw [updR_off _ hpq, updR_at, updR_at])
    rw [det_lin hq, updR_comm hpq, det_lin hp, updR_comm hpq, det_lin hp, updR_comm (Ne.symm hpq), updR_comm (Ne.symm hpq), updR_comm (Ne.symm hpq), updR_comm (Ne.symm hpq)] at z1
    omega
  have := key (A p) (A q)
  rw [updR_self] at this
  rw [show updR A q (A q) = A from updR_self A q] at this
  omega
theorem det_same {n p q : Nat} (hpq : p < q) (hq : q < n) {A : Nat → Nat → Int} (h : ∀ c, A p c = A q c) : det n A = 0 := by
  obtain ⟨d, rfl⟩ : ∃ d, q = p + 1 + d := ⟨q - p - 1, by omega⟩
  induction d generalizing A with
  | zero => exact det_next hq h
  | succ d ih =>
    have hs := swap_of (n := n) (p := p + 1 + d) (q := p + 1 + d + 1) (by omega) (by omega) (by omega) (fun A hA => det_next (by omega) hA) A
    have hz := ih (A := updR (updR A (p + 1 + d) (A (p + 1 + d + 1))) (p + 1 + d + 1) (A (p + 1 + d))) (by omega) (by omega) (fun c => by
      rw [updR_off _ (by omega), updR_off _ (by omega), updR_off _ (by omega), updR_at]; exact h c)
    omega
theorem det_twice {n p q : Nat} (hpq : p ≠ q) (hp : p < n) (hq : q < n) {A : Nat → Nat → Int} (h : ∀ c, A p c = A q c) : det n A = 0 := by
  by_cases e : p < q
  · exact det_same e hq h
  · exact det_same (show q < p by omega) hp fun c => (h c).symm
theorem det_row {n p q : Nat} (hp : p < n) (hq : q < n) (hpq : p ≠ q) (A : Nat → Nat → Int) (x y : Int) :
    det n (updR A p fun c => x * A p c + y * A q c) = x * det n A := by
  rw [det_lin hp, updR_self, det_twice hpq hp hq (A := updR A p (A q)) (fun c => by rw [updR_at, updR_off _ (Ne.symm hpq)])]
  omega
def gone (k : Nat) (A : Nat → Nat → Int) : Nat → Nat → Int := fun r c => if 0 < r ∧ r ≤ k then A 0 0 * A r c - A r 0 * A 0 c else A r c
theorem det_gone {n : Nat} (A : Nat → Nat → Int) : ∀ k, k ≤ n → det (n + 1) (gone k A) = A 0 0 ^ k * det (n + 1) A := by
  intro k
  induction k with
  | zero => intro _; rw [show gone 0 A = A from by funext r c; unfold gone; rw [if_neg (by omega)]]; simp
  | succ k ih =>
    intro hk
    have e : gone (k + 1) A = updR (gone k A) (k + 1) fun c => A 0 0 * gone k A (k + 1) c + (- A (k + 1) 0) * gone k A 0 c := by
      funext r c
      unfold updR
      by_cases e : r = k + 1
      · subst e
        rw [if_pos rfl]
        have z1 : gone (k + 1) A (k + 1) c = A 0 0 * A (k + 1) c - A (k + 1) 0 * A 0 c := by unfold gone; rw [if_pos (by omega)]
        have z2 : gone k A (k + 1) c = A (k + 1) c := by unfold gone; rw [if_neg (by omega)]
        have z3 : gone k A 0 c = A 0 c := by unfold gone; rw [if_neg (by omega)]
        show _ = A 0 0 * gone k A (k + 1) c + (- A (k + 1) 0) * gone k A 0 c
        rw [z1, z2, z3]
        grind
      · rw [if_neg e]
        unfold gone
        by_cases e2 : 0 < r ∧ r ≤ k
        · rw [if_pos e2, if_pos (by omega)]
        · rw [if_neg e2, if_neg (by omega)]
    rw [e, det_row (by omega) (by omega) (by omega), ih (by omega), Int.pow_succ]
    grind
def chio (A : Nat → Nat → Int) : Nat → Nat → Int := fun i j => A 0 0 * A (i + 1) (j + 1) - A (i + 1) 0 * A 0 (j + 1)
theorem det_chio (n : Nat) (A : Nat → Nat → Int) : A 0 0 ^ n * det (n + 1) A = A 0 0 * det n (chio A) := by
  rw [← det_gone A n (Nat.le_refl n)]
  have h : det (n + 1) (gone n A) = sumN (n + 1) fun i => sg i * gone n A i 0 * det n fun r c => gone n A (sk i r) (c + 1) := rfl
  rw [h, sumN_one (p := 0) (by omega) (fun i hi h0 => by
    rw [show gone n A i 0 = 0 from by unfold gone; rw [if_pos (by omega)]; grind]; simp)]
  have e : det n (fun r c => gone n A (sk 0 r) (c + 1)) = det n (chio A) := det_congr fun r c hr hc => by
    rw [show sk 0 r = r + 1 from rfl]; unfold gone chio; rw [if_pos (by omega)]
  rw [e, show gone n A 0 0 = A 0 0 from by unfold gone; rw [if_neg (by omega)], show sg 0 = 1 from rfl, Int.one_mul]
theorem det_nil {n : Nat} {A : Nat → Nat → Int} (h : ∀ i, i < n + 1 → A i 0 = 0) : det (n + 1) A = 0 :=
  sumN_zero fun i hi => by rw [h i hi]; simp
theorem sumN_abs {n : Nat} {f : Nat → Int} {b : Nat} (h : ∀ i, i < n → (f i).natAbs ≤ b) : (sumN n f).natAbs ≤ n * b := by
  induction n with
  | zero => simp [sumN]
  | succ n ih =>
    have h1 := ih fun i hi => h i (by omega)
    have h2 := h n (by omega)
    have h3 := Int.natAbs_add_le (sumN n f) (f n)
    show (sumN n f + f n).natAbs ≤ _
    rw [Nat.succ_mul]
    omega
def fct : Nat → Nat
  | 0 => 1
  | n + 1 => (n + 1) * fct n
theorem det_abs {n m : Nat} {A : Nat → Nat → Int} (h : ∀ i j, i < n → j < n → (A i j).natAbs ≤ m) : (det n A).natAbs ≤ fct n * m ^ n := by
  induction n generalizing A with
  | zero => simp [det, fct]
  | succ n ih =>
    have h1 : (det (n + 1) A).natAbs ≤ (n + 1) * (m * (fct n * m ^ n)) := sumN_abs fun i hi => by
      have := ih (A := fun r c => A (sk i r) (c + 1)) fun r c hr hc => h _ _ (sk_lt hr) (by omega)
      rw [Int.natAbs_mul, Int.natAbs_mul, show (sg i).natAbs = 1 from by unfold sg; split <;> rfl, Nat.one_mul]
      exact Nat.mul_le_mul (h i 0 hi (by omega)) this
    rw [show fct (n + 1) * m ^ (n + 1) = (n + 1) * (m * (fct n * m ^ n)) from by rw [show fct (n + 1) = (n + 1) * fct n from rfl, Nat.pow_succ]; grind]
    exact h1
theorem det_two (A : Nat → Nat → Int) : det 2 A = A 0 0 * A 1 1 - A 1 0 * A 0 1 := by
  simp [det, sumN, sg, sk]; grind
theorem det_one (A : Nat → Nat → Int) : det 1 A = A 0 0 := by
  simp [det, sumN, sg]
theorem det_scale (n : Nat) (x : Int) (A : Nat → Nat → Int) : det n (fun i j => x * A i j) = x ^ n * det n A := by
  induction n generalizing A with
  | zero => simp [det]
  | succ n ih =>
    show sumN (n + 1) (fun i => sg i * (x * A i 0) * det n fun r c => x * A (sk i r) (c + 1)) = _ * sumN (n + 1) _
    rw [show ∀ f : Nat → Int, x ^ (n + 1) * sumN (n + 1) f = x ^ (n + 1) * sumN (n + 1) f + 0 * sumN (n + 1) f from fun f => by omega]
    refine sumN_lin fun i hi => ?_
    rw [ih (fun r c => A (sk i r) (c + 1)), Int.pow_succ]
    grind
def nxt (q : Int) (M : Nat → Nat → Int) : Nat → Nat → Int := fun i j => (chio M i j).tdiv q
def Good (q : Int) (b : Nat → Nat) (M : Nat → Nat → Int) : Prop :=
  ∀ (r : Nat) (R C : Nat → Nat), ∃ D : Int, det (r + 1) (fun i j => M (R i) (C j)) = q ^ r * D ∧ D.natAbs ≤ b r
def fst1 (R : Nat → Nat) : Nat → Nat
  | 0 => 0
  | i + 1 => R i + 1
theorem Good.entry {q : Int} {b : Nat → Nat} {M : Nat → Nat → Int} (h : Good q b M) (i j : Nat) : (M i j).natAbs ≤ b 0 := by
  obtain ⟨D, h1, h2⟩ := h 0 (fun _ => i) (fun _ => j)
  rw [det_one, Int.pow_zero, Int.one_mul] at h1
  rw [h1]; exact h2
theorem Good.exact {q : Int} {b : Nat → Nat} {M : Nat → Nat → Int} (h : Good q b M) (hq : q ≠ 0) (i j : Nat) : q * nxt q M i j = chio M i j := by
  obtain ⟨D, h1, _⟩ := h 1 (fst1 fun _ => i) (fst1 fun _ => j)
  rw [det_two, Int.pow_one] at h1
  have e : chio M i j = q * D := h1
  unfold nxt
  rw [e, Int.mul_tdiv_cancel_left _ hq]
theorem chio_fst (M : Nat → Nat → Int) (R C : Nat → Nat) : chio (fun i j => M (fst1 R i) (fst1 C j)) = fun i j => chio M (R i) (C j) := rfl
theorem pow_ne {q : Int} (hq : q ≠ 0) (n : Nat) : q ^ n ≠ 0 := by
  induction n with
  | zero => simp
  | succ n ih => rw [Int.pow_succ]; exact Int.mul_ne_zero ih hq
theorem mul_left_pow {q x y : Int} (hq : q ≠ 0) (n : Nat) (h : q ^ n * x = q ^ n * y) : x = y :=
  Int.eq_of_mul_eq_mul_left (pow_ne hq n) h
theorem minor_next {q : Int} {b : Nat → Nat} {M : Nat → Nat → Int} (h : Good q b M) (hq : q ≠ 0) (ha : M 0 0 ≠ 0) {r : Nat} {R C : Nat → Nat} {D : Int}
    (hD : det (r + 2) (fun i j => M (fst1 R i) (fst1 C j)) = q ^ (r + 1) * D) :
    det (r + 1) (fun i j => nxt q M (R i) (C j)) = M 0 0 ^ r * D := by
  have h1 := det_scale (r + 1) q (fun i j => nxt q M (R i) (C j))
  have h2 : (fun i j => q * nxt q M (R i) (C j)) = chio (fun i j => M (fst1 R i) (fst1 C j)) := by
    funext i j
    rw [chio_fst]
    exact h.exact hq _ _
  have h3 := det_chio (r + 1) (fun i j => M (fst1 R i) (fst1 C j))
  rw [h2] at h1
  rw [h1, hD] at h3
  have h4 : M 0 0 ^ (r + 1) * (q ^ (r + 1) * D) = M 0 0 * (q ^ (r + 1) * det (r + 1) fun i j => nxt q M (R i) (C j)) := h3
  rw [Int.pow_succ (M 0 0)] at h4
  refine mul_left_pow hq (r + 1) (Int.eq_of_mul_eq_mul_left ha ?_)
  grind
theorem Good.next {q : Int} {b : Nat → Nat} {M : Nat → Nat → Int} (h : Good q b M) (hq : q ≠ 0) (ha : M 0 0 ≠ 0) : Good (M 0 0) (fun r => b (r + 1)) (nxt q M) := fun r R C => by
  obtain ⟨D, h1, h2⟩ := h (r + 1) (fst1 R) (fst1 C)
  exact ⟨D, minor_next h hq ha h1, h2⟩
def Full (q : Int) (n : Nat) (M : Nat → Nat → Int) (D : Int) : Prop := q * det n M = q ^ n * D
theorem fst1_id : fst1 (fun i => i) = fun i => i := by funext i; cases i <;> rfl
theorem Full.next {q : Int} {b : Nat → Nat} {M : Nat → Nat → Int} {n : Nat} {D : Int} (h : Good q b M) (hq : q ≠ 0) (ha : M 0 0 ≠ 0) (hf : Full q (n + 1) M D) : Full (M 0 0) n (nxt q M) D := by
  unfold Full at hf ⊢
  cases n with
  | zero =>
    rw [det_one, Int.pow_succ, Int.pow_zero, Int.one_mul] at hf
    have := Int.eq_of_mul_eq_mul_left hq hf
    show _ * 1 = _
    rw [this]; simp
  | succ n =>
    have hf' : det (n + 2) M = q ^ (n + 1) * D := by
      refine Int.eq_of_mul_eq_mul_left hq ?_
      rw [hf, Int.pow_succ q (n + 1)]; grind
    have h2 := minor_next (R := fun i => i) (C := fun i => i) h hq ha (r := n) (D := D) (by rw [fst1_id]; exact hf')
    rw [h2, Int.pow_succ]; grind
theorem Full.zero {q D : Int} {M : Nat → Nat → Int} (h : Full q 0 M D) : D = q := by
  unfold Full at h
  simp [det] at h
  exact h.symm
theorem Full.nil {q D : Int} {n : Nat} {M : Nat → Nat → Int} (h : Full q (n + 1) M D) (hq : q ≠ 0) (hz : ∀ i, i < n + 1 → M i 0 = 0) : D = 0 := by
  unfold Full at h
  rw [det_nil hz, Int.mul_zero] at h
  rcases Int.mul_eq_zero.1 h.symm with e | e
  · exact absurd e (pow_ne hq _)
  · exact e
def add0 (k : Nat) (M : Nat → Nat → Int) : Nat → Nat → Int := updR M 0 fun c => M 0 c + M k c
theorem Good.add0 {q : Int} {b : Nat → Nat} {M : Nat → Nat → Int} (h : Good q b M) (k : Nat) : Good q (fun r => 2 * b r) (add0 k M) := fun r R C => by
  by_cases e : ∃ p, p < r + 1 ∧ R p = 0
  · obtain ⟨p, hp, hp0⟩ := e
    by_cases e2 : ∃ p', p' < r + 1 ∧ p' ≠ p ∧ R p' = 0
    · obtain ⟨p', hp', hne, hp0'⟩ := e2
      exact ⟨0, by rw [det_twice hne hp' hp (fun c => by rw [hp0, hp0'])]; simp, Nat.zero_le _⟩
    · obtain ⟨D1, h1, b1⟩ := h r R C
      obtain ⟨D2, h2, b2⟩ := h r (fun i => if i = p then k else R i) C
      refine ⟨D1 + D2, ?_, ?_⟩
      · have e3 : det (r + 1) (fun i j => Go.Proofs.YtjoenldfjggciaaGreatDoor.add0 k M (R i) (C j)) = det (r + 1) (updR (fun i j => M (R i) (C j)) p fun c => 1 * M 0 (C c) + 1 * M k (C c)) := det_congr fun i j hi hj => by
          unfold Go.Proofs.YtjoenldfjggciaaGreatDoor.add0 updR
          by_cases e4 : i = p
          · subst e4; rw [if_pos hp0, if_pos rfl]; show _ = 1 * M 0 (C j) + 1 * M k (C j); rw [Int.one_mul, Int.one_mul]
          · rw [if_neg (fun e5 => e2 ⟨i, hi, e4, e5⟩), if_neg e4]
        have e5 : updR (fun i j => M (R i) (C j)) p (fun c => M 0 (C c)) = fun i j => M (R i) (C j) := by
          funext i j; unfold updR; split
          · next e6 => subst e6; rw [hp0]
          · rfl
        have e6 : updR (fun i j => M (R i) (C j)) p (fun c => M k (C c)) = fun i j => M (if i = p then k else R i) (C j) := by
          funext i j; unfold updR; split <;> rfl
        rw [e3, det_lin hp, e5, e6, h1, h2]
        grind
      · have := Int.natAbs_add_le D1 D2
        show _ ≤ 2 * b r
        omega
  · obtain ⟨D, h1, b1⟩ := h r R C
    refine ⟨D, ?_, by show _ ≤ 2 * b r; omega⟩
    rw [← h1]
    exact det_congr fun i j hi _ => by unfold Go.Proofs.YtjoenldfjggciaaGreatDoor.add0 updR; rw [if_neg fun e5 => e ⟨i, hi, e5⟩]
theorem Full.add0 {q D : Int} {n k : Nat} {M : Nat → Nat → Int} (h : Full q n M D) (hn : 0 < n) (h0 : k ≠ 0) (hk : k < n) : Full q n (add0 k M) D := by
  unfold Full at h ⊢
  rw [show Go.Proofs.YtjoenldfjggciaaGreatDoor.add0 k M = updR M 0 fun c => 1 * M 0 c + 1 * M k c from by unfold Go.Proofs.YtjoenldfjggciaaGreatDoor.add0; simp only [Int.one_mul], det_row hn hk (Ne.symm h0), Int.one_mul]
  exact h
theorem Good.start {A : Nat → Nat → Int} {m : Nat} (h : ∀ i j, (A i j).natAbs ≤ m) : Good 1 (fun r => fct (r + 1) * m ^ (r + 1)) A := fun r R C =>
  ⟨_, by rw [Int.one_pow, Int.one_mul], det_abs fun i j _ _ => h _ _⟩
theorem Full.start (n : Nat) (A : Nat → Nat → Int) : Full 1 n A (det n A) := by unfold Full; rw [Int.one_pow]
def mins : Nat → Int → (Nat → Nat → Int) → List Int
  | 0, _, _ => []
  | n + 1, q, M => M 0 0 :: (if 0 < M 0 0 then mins n (M 0 0) (nxt q M) else [])
theorem sumN_mul (n : Nat) (f : Nat → Int) (x : Int) : x * sumN n f = sumN n fun i => x * f i := by
  induction n with
  | zero => simp [sumN]
  | succ n ih => unfold sumN; rw [← ih]; grind
theorem sumN_add (n : Nat) (f g : Nat → Int) : sumN n f + sumN n g = sumN n fun i => f i + g i := by
  induction n with
  | zero => simp [sumN]
  | succ n ih => unfold sumN; rw [← ih]; dsimp only; omega
def quad (n : Nat) (M : Nat → Nat → Int) (x : Nat → Int) : Int := sumN n fun i => sumN n fun j => M i j * x i * x j
def PD (n : Nat) (M : Nat → Nat → Int) : Prop := ∀ x : Nat → Int, (∃ i, i < n ∧ x i ≠ 0) → 0 < quad n M x
def Symm (M : Nat → Nat → Int) : Prop := ∀ i j, M i j = M j i
theorem quad_mul (n : Nat) (M : Nat → Nat → Int) (x : Nat → Int) (a : Int) : quad n (fun i j => a * M i j) x = a * quad n M x := by
  unfold quad
  rw [sumN_mul]
  refine sumN_congr fun i _ => ?_
  rw [sumN_mul]
  exact sumN_congr fun j _ => by grind
theorem quad_of (n : Nat) (M : Nat → Nat → Int) (x : Nat → Int) (a : Int) : quad n M (fun i => a * x i) = a * a * quad n M x := by
  unfold quad
  rw [sumN_mul]
  refine sumN_congr fun i _ => ?_
  rw [sumN_mul]
  exact sumN_congr fun j _ => by grind
theorem quad_head (n : Nat) (M : Nat → Nat → Int) (x : Nat → Int) :
    quad (n + 1) M x = M 0 0 * x 0 * x 0 + x 0 * (sumN n fun j => M 0 (j + 1) * x (j + 1)) + x 0 * (sumN n fun i => M (i + 1) 0 * x (i + 1)) + quad n (fun i j => M (i + 1) (j + 1)) fun i => x (i + 1) := by
  unfold quad
  rw [sumN_head, sumN_head]
  have h1 : (sumN n fun i => M 0 (i + 1) * x 0 * x (i + 1)) = x 0 * sumN n fun j => M 0 (j + 1) * x (j + 1) := by
    rw [sumN_mul]; exact sumN_congr fun i _ => by grind
  have h2 : (sumN n fun i => sumN (n + 1) fun j => M (i + 1) j * x (i + 1) * x j) = x 0 * (sumN n fun i => M (i + 1) 0 * x (i + 1)) + sumN n fun i => sumN n fun j => M (i + 1) (j + 1) * x (i + 1) * x (j + 1) := by
    rw [sumN_mul, sumN_add]
    refine sumN_congr fun i _ => ?_
    rw [sumN_head]
    grind
  rw [h1, h2]
  grind
theorem sumN_sq (n : Nat) (f : Nat → Int) : sumN n f * sumN n f = sumN n fun i => sumN n fun j => f i * f j := by
  rw [sumN_mul]
  refine sumN_congr fun i _ => ?_
  rw [Int.mul_comm, sumN_mul]
theorem quad_chio {n : Nat} {M : Nat → Nat → Int} (hs : Symm M) (x : Nat → Int) :
    M 0 0 * quad (n + 1) M x = (M 0 0 * x 0 + sumN n fun j => M 0 (j + 1) * x (j + 1)) * (M 0 0 * x 0 + sumN n fun j => M 0 (j + 1) * x (j + 1)) + quad n (chio M) fun i => x (i + 1) := by
  have h1 : (sumN n fun i => M (i + 1) 0 * x (i + 1)) = sumN n fun j => M 0 (j + 1) * x (j + 1) := sumN_congr fun i _ => by rw [hs (i + 1) 0]
  have h2 : quad n (chio M) (fun i => x (i + 1)) + (sumN n fun j => M 0 (j + 1) * x (j + 1)) * (sumN n fun j => M 0 (j + 1) * x (j + 1)) = M 0 0 * quad n (fun i j => M (i + 1) (j + 1)) fun i => x (i + 1) := by
    rw [sumN_sq, ← quad_mul]
    unfold quad
    rw [sumN_add]
    refine sumN_congr fun i _ => ?_
    rw [sumN_add]
    refine sumN_congr fun j _ => ?_
    unfold chio
    rw [hs (i + 1) 0]
    grind
  rw [quad_head, h1]
  grind
theorem mul_self_nonneg (x : Int) : 0 ≤ x * x := by
  rcases Int.le_total 0 x with h | h
  · exact Int.mul_nonneg h h
  · exact Int.mul_nonneg_of_nonpos_of_nonpos h h
theorem mul_self_pos {x : Int} (h : x ≠ 0) : 0 < x * x := by
  have := mul_self_nonneg x
  have : x * x ≠ 0 := Int.mul_ne_zero h h
  omega
theorem pos_of_mul {a b : Int} (ha : 0 < a) (h : 0 < a * b) : 0 < b := by
  rcases Int.lt_trichotomy b 0 with h1 | h1 | h1
  · have := Int.mul_neg_of_pos_of_neg ha h1; omega
  · subst h1; simp at h
  · exact h1
theorem pd_chio {n : Nat} {M : Nat → Nat → Int} (hs : Symm M) : PD (n + 1) M ↔ 0 < M 0 0 ∧ PD n (chio M) := by
  constructor
  · intro h
    have ha : 0 < M 0 0 := by
      have := h (fun i => if i = 0 then 1 else 0) ⟨0, by omega, by simp⟩
      rw [quad_head] at this
      rw [sumN_zero (n := n) (f := fun j => M 0 (j + 1) * if j + 1 = 0 then 1 else 0) (fun i _ => by simp), sumN_zero (n := n) (f := fun i => M (i + 1) 0 * if i + 1 = 0 then 1 else 0) (fun i _ => by simp),
        show quad n (fun i j => M (i + 1) (j + 1)) (fun i => if i + 1 = 0 then 1 else 0) = 0 from sumN_zero fun i _ => sumN_zero fun j _ => by simp] at this
      simpa using this
    refine ⟨ha, fun y hy => ?_⟩
    obtain ⟨i, hi, hy⟩ := hy
    have hx := h (fun i => match i with | 0 => - sumN n fun j => M 0 (j + 1) * y j | i + 1 => M 0 0 * y i) ⟨i + 1, by omega, Int.mul_ne_zero (by omega) hy⟩
    have hq := quad_chio (n := n) hs (fun i => match i with | 0 => - sumN n fun j => M 0 (j + 1) * y j | i + 1 => M 0 0 * y i)
    dsimp only at hq
    have e : (sumN n fun j => M 0 (j + 1) * (M 0 0 * y j)) = M 0 0 * sumN n fun j => M 0 (j + 1) * y j := by
      rw [sumN_mul]; exact sumN_congr fun j _ => by grind
    rw [e, quad_of] at hq
    have h3 := Int.mul_pos ha hx
    rw [hq] at h3
    have h4 : 0 < M 0 0 * M 0 0 * quad n (chio M) y := by
      have : (M 0 0 * -(sumN n fun j => M 0 (j + 1) * y j) + M 0 0 * sumN n fun j => M 0 (j + 1) * y j) = 0 := by grind
      rw [this] at h3
      simpa using h3
    exact pos_of_mul (Int.mul_pos ha ha) h4
  · rintro ⟨ha, hc⟩ x ⟨i, hi, hx⟩
    refine pos_of_mul ha ?_
    rw [quad_chio hs]
    by_cases e : ∃ j, j < n ∧ x (j + 1) ≠ 0
    · have := hc (fun i => x (i + 1)) e
      have := mul_self_nonneg (M 0 0 * x 0 + sumN n fun j => M 0 (j + 1) * x (j + 1))
      omega
    · have hz : ∀ j, j < n → x (j + 1) = 0 := fun j hj => Classical.byContradiction fun h => e ⟨j, hj, h⟩
      have h0 : x 0 ≠ 0 := by
        cases i with
        | zero => exact hx
        | succ i => exact absurd (hz i (by omega)) hx
      rw [sumN_zero fun j hj => by rw [hz j hj, Int.mul_zero], show quad n (chio M) (fun i => x (i + 1)) = 0 from sumN_zero fun i hi => sumN_zero fun j hj => by simp only [hz j hj, Int.mul_zero]]
      have := mul_self_pos (x := M 0 0 * x 0) (Int.mul_ne_zero (by omega) h0)
      simpa using this
theorem Symm.chio {M : Nat → Nat → Int} (h : Symm M) : Symm (chio M) := fun i j => by
  unfold Go.Proofs.YtjoenldfjggciaaGreatDoor.chio; rw [h (i + 1) (j + 1), h (i + 1) 0, h 0 (j + 1)]; grind
theorem Symm.nxt {M : Nat → Nat → Int} (h : Symm M) (q : Int) : Symm (nxt q M) := fun i j => by
  unfold Go.Proofs.YtjoenldfjggciaaGreatDoor.nxt; rw [h.chio i j]
theorem pd_mins {b : Nat → Nat} : ∀ {n : Nat} {q : Int} {M : Nat → Nat → Int}, 0 < q → Good q b M → Symm M → (PD n M ↔ ∀ x ∈ mins n q M, 0 < x) := by
  intro n
  induction n generalizing b with
  | zero =>
    intro q M _ _ _
    constructor
    · intro _ x h; cases h
    · rintro _ x ⟨i, hi, _⟩; omega
  | succ n ih =>
    intro q M hq hg hs
    rw [pd_chio hs]
    show _ ↔ ∀ x ∈ M 0 0 :: (if 0 < M 0 0 then mins n (M 0 0) (nxt q M) else []), 0 < x
    by_cases ha : 0 < M 0 0
    · have h1 := ih ha (hg.next (by omega) (by omega)) (hs.nxt q)
      have h2 : PD n (chio M) ↔ PD n (nxt q M) := by
        have e : chio M = fun i j => q * nxt q M i j := by funext i j; exact (hg.exact (by omega) i j).symm
        have e2 : ∀ x, quad n (chio M) x = q * quad n (nxt q M) x := fun x => by rw [e, quad_mul]
        exact ⟨fun h x hx => pos_of_mul hq (by rw [← e2]; exact h x hx), fun h x hx => by rw [e2]; exact Int.mul_pos hq (h x hx)⟩
      rw [if_pos ha, h2, h1]
      simp [ha]
    · rw [if_neg ha]
      simp [ha]
theorem mins_len : ∀ (n : Nat) (q : Int) (M : Nat → Nat → Int), (mins n q M).length ≤ n := by
  intro n
  induction n with
  | zero => intro q M; exact Nat.le_refl _
  | succ n ih =>
    intro q M
    unfold mins
    have := ih (M 0 0) (nxt q M)
    split <;> simp <;> omega
theorem mins_congr : ∀ {n : Nat} {q : Int} {A B : Nat → Nat → Int}, (∀ i j, i < n → j < n → A i j = B i j) → mins n q A = mins n q B := by
  intro n
  induction n with
  | zero => intro q A B _; rfl
  | succ n ih =>
    intro q A B h
    show A 0 0 :: (if 0 < A 0 0 then mins n (A 0 0) (nxt q A) else []) = B 0 0 :: (if 0 < B 0 0 then mins n (B 0 0) (nxt q B) else [])
    rw [h 0 0 (by omega) (by omega), ih (A := nxt q A) (B := nxt q B) fun i j hi hj => by unfold nxt chio; rw [h 0 0 (by omega) (by omega), h (i + 1) (j + 1) (by omega) (by omega), h (i + 1) 0 (by omega) (by omega), h 0 (j + 1) (by omega) (by omega)]]
end Go.Proofs.YtjoenldfjggciaaGreatDoor
namespace Go.Proofs.YtjoenldfjggciaaGreatDoor
open Go Go.RowKit
set_option maxRecDepth 100000
theorem idx_turn (n i j : Int) : idx n i j = idx n j i := by
  unfold idx
  rw [Int.min_comm i j, Int.max_comm i j]
def Mat (s : Nat) (L : List (List Int)) (M : Nat → Nat → Int) : Prop := L.length = s ∧ ∀ i, i < s → (L.getD i []).length = s ∧ ∀ j, j < s → zth (L.getD i []) j = M i j
def bb (k r : Nat) : Nat := 2 ^ k * (fct (r + k + 1) * 1073741824 ^ (r + k + 1))
theorem bb_succ (k r : Nat) : bb (k + 1) r = 2 * bb k (r + 1) := by
  unfold bb
  rw [show r + (k + 1) + 1 = r + 1 + k + 1 by omega, Nat.pow_succ, Nat.mul_comm (2 ^ k) 2, Nat.mul_assoc]
theorem bp5_is : bp 5 = 18446744073709551616 * 18446744073709551616 * 18446744073709551616 * 18446744073709551616 * 18446744073709551616 := by
  rw [bp_succ 4, bp_succ 3, bp_succ 2, bp_succ 1, bp_succ 0, bp_zero, Nat.one_mul]
theorem bb_bp {k : Nat} (h : k ≤ 7) : bb k 0 < bp 5 := by
  rw [bp5_is]
  rcases k with _ | _ | _ | _ | _ | _ | _ | _ | k
  · decide +kernel
  · decide +kernel
  · decide +kernel
  · decide +kernel
  · decide +kernel
  · decide +kernel
  · decide +kernel
  · decide +kernel
  · omega
def St (q : Int) (k : Nat) (M : Nat → Nat → Int) : Prop := Good q (bb k) M ∧ q ≠ 0 ∧ q.natAbs < bp 5
theorem Good.mono {q : Int} {b c : Nat → Nat} {M : Nat → Nat → Int} (h : Good q b M) (hbc : ∀ r, b r ≤ c r) : Good q c M := fun r R C => by
  obtain ⟨D, h1, h2⟩ := h r R C
  exact ⟨D, h1, Nat.le_trans h2 (hbc r)⟩
theorem St.entry {q : Int} {k : Nat} {M : Nat → Nat → Int} (h : St q k M) (hk : k ≤ 7) (i j : Nat) : (M i j).natAbs < bp 5 := Nat.lt_of_le_of_lt (h.1.entry i j) (bb_bp hk)
theorem St.next {q : Int} {k : Nat} {M : Nat → Nat → Int} (h : St q k M) (hk : k ≤ 7) (ha : M 0 0 ≠ 0) : St (M 0 0) (k + 1) (nxt q M) :=
  ⟨(h.1.next h.2.1 ha).mono fun r => by rw [bb_succ]; omega, ha, h.entry hk 0 0⟩
def AM (n : Nat) (l : List Int) : Nat → Nat → Int := fun i j => if i < n ∧ j < n then ent n l i j else 0
theorem AM_at {n : Nat} {l : List Int} {i j : Nat} (hi : i < n) (hj : j < n) : AM n l i j = ent n l i j := by unfold AM; rw [if_pos ⟨hi, hj⟩]
theorem AM_abs {n : Nat} {l : List Int} (hR : rt n l = true) (i j : Nat) : (AM n l i j).natAbs ≤ 1073741824 := by
  unfold AM
  split
  · rename_i h
    obtain ⟨k, _, hk, he⟩ := idx_nat hR (show rng (n : Int) i j = true from decide_eq_true (by omega))
    rw [he]
    have := of_decide_eq_true ((rt_spec hR).2.2.2 k hk)
    omega
  · simp
theorem AM_symm (n : Nat) (l : List Int) : Symm (AM n l) := fun i j => by
  unfold AM
  by_cases h : i < n ∧ j < n
  · rw [if_pos h, if_pos ⟨h.2, h.1⟩]; unfold ent; rw [idx_turn]
  · rw [if_neg h, if_neg (fun x => h ⟨x.2, x.1⟩)]
theorem St.start {n : Nat} {l : List Int} (hR : rt n l = true) : St 1 0 (AM n l) :=
  ⟨(Good.start (AM_abs hR)).mono fun r => by unfold bb; rw [Nat.pow_zero, Nat.one_mul, Nat.add_zero]; exact Nat.le_refl _, by decide, by have := bp_mono (show 1 ≤ 5 by omega); rw [bp_succ 0, bp_zero] at this; show (1 : Nat) < bp 5; omega⟩
theorem Mat.start (n : Nat) (l : List Int) : Mat n (sqE n l) (AM n l) := by
  have hl : (sqE n l).length = n := by unfold sqE; simp
  refine ⟨hl, fun i hi => ?_⟩
  have e : (sqE n l).getD i [] = rowE n l i := by
    rw [List.getD_eq_getElem?_getD]
    unfold sqE
    rw [List.getElem?_map, List.getElem?_range hi]
    rfl
  rw [e]
  refine ⟨mk_len _ _, fun j hj => ?_⟩
  unfold rowE
  rw [mk_at hj, AM_at hi hj]
theorem zth_far {l : List Int} {k : Nat} (h : l.length ≤ k) : zth l k = 0 := by
  unfold zth
  rw [List.getD_eq_getElem?_getD, List.getElem?_eq_none h]
  rfl
theorem Mat.few {s k : Nat} {q : Int} {L : List (List Int)} {M : Nat → Nat → Int} (h : Mat s L M) (hs : St q k M) (hk : k ≤ 7) (i : Nat) : Few (L.getD i []) := fun j => by
  have h0 : (0 : Int).natAbs < bp 5 := bp_pos 5
  by_cases hi : i < s
  · obtain ⟨h1, h2⟩ := h.2 i hi
    by_cases hj : j < s
    · rw [h2 j hj]; exact hs.entry hk i j
    · rw [zth_far (by omega)]; exact h0
  · rw [List.getD_eq_getElem?_getD, List.getElem?_eq_none (by rw [h.1]; omega)]
    show (zth [] j).natAbs < _
    rw [zth_far (Nat.zero_le _)]; exact h0
theorem Mat.next {n : Nat} {q : Int} {L : List (List Int)} {M : Nat → Nat → Int} (h : Mat (n + 1) L M) : Mat n ((L.drop 1).map fun R => tk (L.getD 0 []) R q n) (nxt q M) := by
  have hl : (L.drop 1).length = n := by rw [List.length_drop, h.1]; omega
  refine ⟨by rw [List.length_map, hl], fun i hi => ?_⟩
  have e : (((L.drop 1).map fun R => tk (L.getD 0 []) R q n).getD i []) = tk (L.getD 0 []) (L.getD (i + 1) []) q n := by
    rw [List.getD_eq_getElem?_getD, List.getElem?_map, List.getElem?_eq_getElem (by omega), List.getElem_drop]
    have : L.getD (i + 1) [] = L[1 + i]'(by rw [h.1]; omega) := by
      rw [List.getD_eq_getElem?_getD, Nat.add_comm, List.getElem?_eq_getElem (by rw [h.1]; omega)]
      rfl
    rw [this]
    rfl
  rw [e]
  refine ⟨mk_len _ _, fun j hj => ?_⟩
  unfold tk
  rw [mk_at hj, (h.2 0 (by omega)).2 0 (by omega), (h.2 0 (by omega)).2 (j + 1) (by omega), (h.2 (i + 1) (by omega)).2 0 (by omega), (h.2 (i + 1) (by omega)).2 (j + 1) (by omega)]
  rfl
theorem Mat.rest {n : Nat} {L : List (List Int)} {M : Nat → Nat → Int} (h : Mat (n + 1) L M) : ∀ i, i < (L.drop 1).length → ((L.drop 1).getD i []).length = n + 1 := fun i hi => by
  have hl : (L.drop 1).length = n := by rw [List.length_drop, h.1]; omega
  rw [show (L.drop 1).getD i [] = L.getD (i + 1) [] from by rw [List.getD_eq_getElem?_getD, List.getD_eq_getElem?_getD, List.getElem?_drop, Nat.add_comm]]
  exact (h.2 (i + 1) (by omega)).1
def mnC (N : Int) (l : List Int) : Int := if rt N l then 0 else 23
def mnR (N : Int) (l : List Int) : List Int := if rt N l then mins N.toNat 1 (AM N.toNat l) else []
def elimB : ByteArray := ⟨#[101, 108, 105, 109]⟩
def ErrsE (w : World) (u : Value) (e : Int) : Prop := (e = 0 ∧ u = .nilIface) ∨ (e ≠ 0 ∧ ∃ t x, u = .iface t x ∧ IsEr w u (.flt elimB (.num e)))
theorem ErrsE.up {w w' : World} (hu : Up w w') {u : Value} {e : Int} (h : ErrsE w u e) : ErrsE w' u e := by
  rcases h with h | ⟨h1, t, x, h2, h3⟩
  · exact .inl h
  · exact .inr ⟨h1, t, x, h2, h3.up hu⟩
def tailV (g n c2 : Nat) : Value := .slice (some ⟨g, if c2 = 0 then 0 else 1, none⟩) n c2
theorem run_tail {ev : Operand → Value} {w : World} {d : Option Tmp} {s : Tmp} {ty : TypeId} {pos : String} {af : Array Edge} {gd : Option (Nat × Bool)} {g n c2 : Nat} (hc : n ≤ c2) (hx : ev (.tmp s) = .slice (some ⟨g, 0, none⟩) (n + 1) (c2 + 1)) (hk : ev (.const (.int .i64 1)) = .int .i64 1) :
    (execOp ev { dst := d, op := .slice 103 (.tmp s) (some (.const (.int .i64 1))) none none, type := ty, pos := pos, after := af, guard := gd }).run Tryz.prog w = .ok (.value (tailV g n c2)) w := by
  unfold tailV
  rcases c2 with _ | c2
  · obtain rfl : n = 0 := by omega
    go_simp
  · go_simp
    intro h
    omega
theorem rv_tail {w : World} {g n c2 : Nat} {C : Array Value} {L : List (List Int)} (hl : L.length = n + 1) (hc : n + 1 ≤ c2 + 1) (hB : Blk w g 38 C) (hE : ∀ i, i < L.length → ∃ s, C[i]? = some s ∧ Wv w s (L.getD i [])) : Rv w (tailV g n c2) (L.drop 1) := by
  unfold tailV
  by_cases h0 : c2 = 0
  · have hn : (L.drop 1) = [] := List.length_eq_zero_iff.1 (by rw [List.length_drop]; omega)
    exact .inl ⟨hn, _, _, by rw [show n = 0 by omega]⟩
  · rw [if_neg h0]
    exact Rz.tail hl hc hB hE
theorem OwnW.mono {w : World} {b b' : Nat} {v : Value} {l : List Int} (h : OwnW w b v l) (hb : b' ≤ b) : OwnW w b' v l := by
  obtain ⟨h0, h1 | ⟨g', cap, cur, hv, hbb, hr⟩⟩ := h
  · exact ⟨h0, .inl h1⟩
  · exact ⟨h0, .inr ⟨g', cap, cur, hv, Nat.le_trans hb hbb, hr⟩⟩
theorem OwnR.mono {w : World} {b b' : Nat} {v : Value} {L : List (List Int)} (h : OwnR w b v L) (hb : b' ≤ b) : OwnR w b' v L := by
  obtain ⟨xs, ⟨h0, h1⟩, h2⟩ := h
  refine ⟨xs, ⟨h0, ?_⟩, fun i hi => by obtain ⟨s, h5, h6⟩ := h2 i hi; exact ⟨s, h5, h6.1, fun a n c e hn => Nat.le_trans hb (h6.2 a n c e hn)⟩⟩
  rcases h1 with h1 | ⟨g', cap, cur, hv, hbb, hr⟩
  · exact .inl h1
  · exact .inr ⟨g', cap, cur, hv, Nat.le_trans hb hbb, hr⟩
theorem OwnR.grown {w w' : World} {b : Nat} {row : Option Nat} {v : Value} {L : List (List Int)} (h : OwnR w b v L) (hg : w.grownBy w' row) (hr : ∀ k, row = some k → k < b) : OwnR w' b v L := by
  have hk : ∀ {g : Nat} {t : TypeId} {C : Array Value}, Blk w g t C → b ≤ g → Blk w' g t C := fun {g t C} hB hb => by
    unfold Blk
    rw [hg.block g hB.lt (fun e => by have := hr g e.symm; omega)]
    exact hB
  obtain ⟨xs, ⟨h0, h1⟩, h2⟩ := h
  refine ⟨xs, ⟨h0, ?_⟩, fun i hi => ?_⟩
  · rcases h1 with h1 | ⟨g', cap, cur, hv, hbb, hB, hr⟩
    · exact .inl h1
    · exact .inr ⟨g', cap, cur, hv, hbb, hk hB hbb, hr⟩
  · obtain ⟨s, h5, h6, h7⟩ := h2 i hi
    refine ⟨s, h5, ?_, h7⟩
    rcases h6 with h6 | ⟨g', cap, C, hv, hc, hB, ht⟩
    · exact .inl h6
    · rcases Nat.eq_zero_or_pos (L.getD i []).length with h00 | h00
      · exact .inl ⟨List.length_eq_zero_iff.1 h00, _, _, by rw [hv, h00]⟩
      · exact .inr ⟨g', cap, C, hv, hc, hk hB (h7 _ _ _ hv h00), ht⟩
theorem OwnR.open {w : World} {b : Nat} {v : Value} {L : List (List Int)} (h : OwnR w b v L) (h0 : 0 < L.length) :
    ∃ g cap C, v = .slice (some ⟨g, 0, none⟩) L.length cap ∧ b ≤ g ∧ L.length ≤ cap ∧ Blk w g 38 C ∧ ∀ i, i < L.length → ∃ s, C[i]? = some s ∧ Wb w b s (L.getD i []) := by
  obtain ⟨xs, ⟨_, h1 | ⟨g, cap, cur, hv, hbb, hB, hc, _, _, ht⟩⟩, h2⟩ := h
  · omega
  · refine ⟨g, cap, cur, hv, hbb, hc, hB, fun i hi => ?_⟩
    obtain ⟨s, h3, h4⟩ := h2 i hi
    rw [← ht, List.getElem?_take_of_lt (by omega), Array.getElem?_toList] at h3
    exact ⟨s, h3, h4⟩
theorem OwnR.tail {w : World} {b g s c2 : Nat} {L : List (List Int)} (h : OwnR w b (.slice (some ⟨g, 0, none⟩) (s + 1) (c2 + 1)) L) (hl : L.length = s + 1) : Rv w (tailV g s c2) (L.drop 1) := by
  obtain ⟨g', cap, C, hv, _, hc, hB, hE⟩ := h.open (by omega)
  injection hv with e1 e2 e3
  injection e1 with e1
  injection e1 with e1
  subst e1 e3
  exact rv_tail hl (by omega) hB fun i hi => by obtain ⟨s, h1, h2⟩ := hE i hi; exact ⟨s, h1, h2.1⟩
theorem ewrong_any (n : Int) (h0 : n ≠ 0) (w : World) :
    Calls Tryz.prog 53 #[.int .i64 n] w fun r w' => ∃ u, r = .returned u ∧ Up w w' ∧ ErrsE w' u n := by
  have HW := hid (fun w => wrap_any (op := { data := #[101, 108, 105, 109] }) (v := .iface 101 (.int .i64 n)) (e := .num n) (w := w) rfl)
  go_enter Tryz.func53, Tryz.ntmps53
  go_wp2_with (first | (go_at_call 97; (with_reducible refine (HW.out _).mono ?_); rintro r w1 ⟨u1, rfl, hu1, h1⟩))
  go_ret
  obtain ⟨t, u, rfl⟩ := h1.iface
  exact ⟨_, rfl, hu1, .inr ⟨h0, t, u, rfl, h1⟩⟩
theorem Blk.below {a b : World} {g B : Nat} {t : TypeId} {C : Array Value} (hB : Blk a g t C) (h : Below B a b) (hg : g < B) : Blk b g t C := by
  unfold Blk
  rw [h.block g hg]
  exact hB
theorem Blk.grown {w w' : World} {g : Nat} {row : Option Nat} {t : TypeId} {C : Array Value} (hB : Blk w g t C) (hg : w.grownBy w' row) (hr : row ≠ some g) : Blk w' g t C := by
  unfold Blk
  rw [hg.block g hB.lt (fun e => hr e.symm)]
  exact hB
theorem wpL_folded {P : Program} {ops : Array Oper} {rest : List Oper} {Q : Exit → Act → World → Prop} {a : Act} {w : World} (R : World → Prop) (h : R w) (k : ∀ w', R w' → wpList P ops Q rest a w') : wpList P ops Q rest a w := k w h
set_option maxHeartbeats 8000000 in
theorem minors_any {v : Value} {N : Int} {l : List Int} {w : World} (hm : Sm w v N l) :
    Calls Tryz.prog 16 #[v] w fun r w' => ∃ z u, r = .returned (.tuple #[z, u]) ∧ Up w w' ∧ Wv w' z (mnR N l) ∧ ErrsE w' u (mnC N l) := by
  have HR := hid (fun w' (hu : Up w w') => sright_any (hm.up hu))
  have HWR := hid (fun w => ewrong_any 23 (by decide) w)
  have HSm := hid hm
  obtain ⟨s, rfl, ⟨p, cap, rfl, -, -⟩, -, -, -⟩ := hm
  obtain ⟨W0, hW0⟩ : ∃ W0, w.alloc (.cells #[.int .i64 N, .slice p l.length cap] 24) = W0 := ⟨_, rfl⟩
  have hB : Blk W0 w.heap.size 24 #[.int .i64 N, .slice p l.length cap] := by rw [← hW0]; exact Blk.new _ _ rfl
  have hU : Up w W0 := by rw [← hW0]; exact Up.alloc _ _
  cases hR : rt N l with
  | false =>
    have e : mnC N l = 23 := by unfold mnC; rw [hR]; rfl
    have e2 : mnR N l = [] := by unfold mnR; rw [hR]; rfl
    rw [e, e2]
    rw [hR] at HR
    clear e e2 hR
    go_enter Tryz.func16, Tryz.ntmps16
    go_wp2_with (first
      | ((with_reducible apply ldM_P); exact rfl; exact rfl; exact hB; exact rfl)
      | (go_at_call 52; (with_reducible refine (HR.out _ hU).mono ?_); rintro r w1 ⟨rfl, hu1⟩)
      | (go_at_call 53; (with_reducible refine (HWR.out _).mono ?_); rintro r w2 ⟨u2, rfl, hu2, h2⟩))
    go_ret2
    exact ⟨_, _, rfl, (hU.trans hu1).trans hu2, .inl ⟨rfl, none, 0, rfl⟩, h2⟩
  | true =>
    rw [hR] at HR
    obtain ⟨n0, n8, _, _⟩ := rt_spec hR
    obtain ⟨n, rfl⟩ : ∃ n : Nat, N = (n : Int) := ⟨N.toNat, by omega⟩
    have e : mnC n l = 0 := by unfold mnC; rw [hR]; rfl
    have e2 : mnR n l = mins n 1 (AM n l) := by unfold mnR; rw [hR, if_pos rfl]; rfl
    rw [e, e2]
    have HSQ := hid (fun w' (hu : Up w w') => square_any (HSm.out.up hu) hR)
    have HSt := hid (St.start hR)
    have HMt := hid (Mat.start n l)
    have HO1 := hid (fun w => of_any 1 (by decide) (by decide) w)
    have hn8 : n ≤ 8 := by omega
    obtain ⟨T, hT⟩ : ∃ T, mins n 1 (AM n l) = T := ⟨_, rfl⟩
    rw [hT]
    clear e e2 hR n0 n8
    unfold wideV at *
    go_enter Tryz.func16, Tryz.ntmps16
    go_wp2_with (first
      | ((with_reducible apply ldM_P); exact rfl; exact rfl; (first | exact hB | exact hB3); exact rfl)
      | (go_at_call 52; (with_reducible refine (HR.out _ hU).mono ?_); rintro r w1 ⟨rfl, hu1⟩; replace hB := hB.up hu1; replace hU := hU.trans hu1)
      | (go_at_call 54; (with_reducible refine (HO1.out _).mono ?_); rintro r w2 ⟨rfl, hu2⟩; have hsz1 := hU.size; have hsz2 := hu2.size)
      | ((with_reducible apply st_rowP infoW); exact rfl; exact rfl; exact row_newz _ rfl
         refine wpL_folded (fun wd => Up w2 wd ∧ Row wd w2.heap.size 33 16 (limb (enc 1))) ⟨gUp, gRow⟩ ?_
         rintro wL ⟨hXL, hLast⟩
         have hU2 := (hU.trans hu2).trans hXL
         have hB3 := (hB.up hu2).up hXL)
      | (go_at_call 55; (with_reducible refine (HSQ.out _ hU2).mono ?_); rintro r w3 ⟨z3, rfl, hu3, b3, hb3, hO3⟩; have hLast3 := hLast.up hu3; have hU3 := hU2.trans hu3; have hlt2 := hLast.lt))
    have hO3b := hO3.mono (show w2.heap.size + 1 ≤ b3 by omega)
    obtain ⟨pz, cz, rfl⟩ := hO3.slice
    obtain ⟨bL, hbL⟩ : ∃ y, w2.heap.size = y := ⟨_, rfl⟩
    rw [hbL] at hLast3 hO3b hlt2 ⊢
    have hwbL : w.heap.size ≤ bL := by omega
    have hInv : ∃ (k s : Nat) (q : Int) (M : Nat → Nat → Int) (L : List (List Int)) (done : List Int) (bR : Nat), s + k = n ∧ Mat s L M ∧ St q k M ∧ done ++ mins s q M = T ∧ OwnR w3 bR (.slice pz (sqE n l).length cz) L ∧ bL < bR ∧
        OwnW w3 (bL + 1) (.slice none 0 0) done ∧ (∀ g, (Value.slice none 0 0).ownBlock = some g → g < bR) ∧ Row w3 bL 33 16 (limb (enc q)) ∧ Up w w3 ∧ done.length + s ≤ 8 :=
      ⟨0, n, 1, AM n l, sqE n l, [], b3, by omega, HMt.out, HSt.out, hT, hO3, by omega, OwnW.nil _ _, fun g h => by simp [Value.ownBlock] at h, hLast3, hU3, by simp; omega⟩
    clear hO3 hO3b hLast3 hlt2 hb3 hu3 hU3 hU2 hB hB3 hU hu2 hu1 hXL hLast hW0 HSt HMt hT hbL hsz1 hsz2 HSQ HO1 HR HWR
    go_loopg [4, 6] (n + 1) (fun g tm tr wr => ∃ (k s : Nat) (q : Int) (M : Nat → Nat → Int) (L : List (List Int)) (done : List Int) (bR : Nat), s ≤ g ∧ s + k = n ∧ Mat s L M ∧ St q k M ∧ done ++ mins s q M = T ∧ OwnR wr bR tr L ∧ bL < bR ∧
        OwnW wr (bL + 1) tm done ∧ (∀ g, tm.ownBlock = some g → g < bR) ∧ Row wr bL 33 16 (limb (enc q)) ∧ Up w wr ∧ done.length + s ≤ 8)
    case atStart =>
      obtain ⟨k, s, q, M, L, done, bR, h1, h2⟩ := hInv
      exact ⟨k, s, q, M, L, done, bR, by omega, h1, h2⟩
    case round =>
      clear hInv
      obtain ⟨k, s, q, M, L, done, bR, hsg, hsk, hMat, hSt, hDone, hO, hbR, hOW, hob, hRow, hu, hdl⟩ := hrel
      obtain ⟨pm, cm, rfl⟩ := hOW.slice
      obtain ⟨pr, cr, rfl⟩ := hO.slice
      rw [hMat.1]
      rcases s with _ | s
      · have hDn : done = T := by rw [← hDone]; simp [mins]
        subst hDn
        clear hDone
        go_wp2_with fail
        go_ret2
        exact ⟨_, _, rfl, hu, hOW.wv, .inl ⟨rfl, rfl⟩⟩
      · obtain ⟨gR, cR, CR, hv, hgR, hcR, hBR, hE⟩ := hO.open (by rw [hMat.1]; omega)
        injection hv with x1 x2 x3
        subst x1 x3
        rw [hMat.1] at hcR
        obtain ⟨sF, hsF, hWF, hWFb⟩ := hE 0 (by rw [hMat.1]; omega)
        obtain ⟨hLF, hLFe⟩ := hMat.2 0 (by omega)
        obtain ⟨gF, cF, CF, hvF, hcF, hBF, htF⟩ := hWF.open (by rw [hLF]; omega)
        have HWv := hid (fun w' (hB : Blk w' gF 33 CF) => show Wv w' (.slice (some ⟨gF, 0, none⟩) (s + 1) cF) (L.getD 0 []) from .inr ⟨gF, cF, CF, by rw [hLF], hcF, hB, htF⟩)
        subst hvF
        have hgF : bR ≤ gF := hWFb _ _ _ rfl (by rw [hLF]; omega)
        rw [hLF] at hsF
        have hF00 : zth (L.getD 0 []) 0 = M 0 0 := hLFe 0 (by omega)
        have hRng : ∀ w', Blk w' gF 33 CF → w'.rangeAt gF 0 (wc (M 0 0)) := fun w' hB => by
          have h := wv_range hB htF (i := 0) (by rw [hLF]; omega)
          rw [hF00, Nat.zero_mul] at h
          exact h
        have HRng := hid hRng
        have hcx := hBR.cell 0 hsF
        have hk7 : k ≤ 7 := by omega
        have HSg := hid (fun w => sign_z (few_inR (k := 5) (by omega) (hSt.entry hk7 0 0)) w)
        unfold wideV at HSg
        have hlt := hRow.lt
        have hne : (Value.slice pm done.length cm).ownBlock ≠ some gF := fun e => by have := hob _ e; omega
        have hDl : done.length < 1000000 := by omega
        have HE := hid hE
        have hmn : mins (s + 1) q M = M 0 0 :: (if 0 < M 0 0 then mins s (M 0 0) (nxt q M) else []) := rfl
        rw [hmn] at hDone
        rw [hMat.1] at hO
        obtain ⟨c2, rfl⟩ : ∃ c2, cr = c2 + 1 := ⟨cr - 1, by omega⟩
        clear hmn hRng hF00 htF hLFe hWF hWFb hE x2 hcF
        have HMat := hid hMat
        have HSt := hid hSt
        have HDone := hid hDone
        have hL00 := hLF
        have HOb := hid hob
        have HO := hid hO
        clear hMat hSt hDone hob hO hsF hLF
        obtain ⟨m0, hm0⟩ : ∃ y, M 0 0 = y := ⟨_, rfl⟩
        have HM0 := hid hm0
        rw [hm0] at HRng HSg
        clear hm0
        by_cases hp : 0 < m0
        · have ds : decide (sgn m0 ≤ 0) = false := by unfold sgn; rw [decide_eq_false]; split <;> (try split) <;> omega
          go_wp2_with (first
            | ((with_reducible apply ldW_P); exact rfl; exact rfl; (first | exact HRng.out _ hBF | exact HRng.out _ hBF6))
            | ((with_reducible apply bsW_P); exact rfl)
            | ((with_reducible apply appW (l := done) (m := [m0])); exact rfl; exact rfl; exact OwnW.up (Up.alloc _ _) hOW; exact one_range rfl; (focus (simp; omega)); exact hDl; (focus (simp; done)); rintro v6 w6 hO6 hg6 hb6
               obtain ⟨p6, c6, rfl⟩ := hO6.slice
               have hBF6 := (hBF.up (Up.alloc _ _)).grown hg6 hne
               have hOR6 := (HO.out.up (Up.alloc _ _)).grown hg6 HOb.out
               have hRow6 : Row w6 bL 33 16 (limb (enc q)) := Blk.below (hRow.up (Up.alloc _ _)) hb6 (Nat.lt_succ_self _)
               have hu6 : Up w w6 := Below.trans (hu.trans (Up.alloc _ _)) (Below.mono hb6 (by omega)))
            | (go_at_call 58; (with_reducible refine (HSg.out _).mono ?_); rintro r w7 ⟨rfl, hu7⟩))
          have hF7 := hBF6.up hu7
          have hRow7 := hRow6.up hu7
          have hOR7 := hOR6.up hu7
          have hO7 := hO6.up hu7
          have hU7 := hu6.trans hu7
          obtain ⟨NX, hNX⟩ : ∃ y, ((L.drop 1).map fun R => tk (L.getD 0 []) R q s) = y := ⟨_, rfl⟩
          have HNX := hid hNX
          have HFW : Hid (∀ w', Up w7 w' → Calls Tryz.prog 57 #[.slice (some ⟨gF, 0, none⟩) (s + 1) cF, tailV gR s c2, .agg (cells 16 (limb (enc q)))] w' (fun e w'' => Up w' w'' ∧ ∃ v, e = .returned v ∧ (fun v w'' => ∃ b, w7.heap.size ≤ b ∧ OwnR w'' b v NX) v w'')) := hid (fun w' hu' => by
            have hf := fewer_any (q := q) (n := s) (HWv.out w' (hF7.up hu')) ((hOR7.up hu').tail HMat.out.1) hL00 HMat.out.rest (by omega) (by rw [List.length_drop, HMat.out.1]; omega) (HMat.out.few HSt.out hk7 0) (fun i => by rw [show (L.drop 1).getD i [] = L.getD (i + 1) [] from by rw [List.getD_eq_getElem?_getD, List.getD_eq_getElem?_getD, List.getElem?_drop, Nat.add_comm]]; exact HMat.out.few HSt.out hk7 (i + 1)) HSt.out.2.2 HSt.out.2.1
            unfold wideV at hf
            rw [hNX] at hf
            refine hf.mono fun _ _ h => ?_
            obtain ⟨z, rfl, hu, b, hb, hO⟩ := h
            exact ⟨hu, z, rfl, b, Nat.le_trans hu'.size hb, hO⟩)
          clear hNX
          go_wp2_with fail
          refine wp_region_upH (S := (fun wq => Up w7 wq ∧ Below w.heap.size w wq)) (req := (fun j => j != 9)) (by kernel_rfl) (fun _ _ h hu => ⟨(h.1).trans hu, below_up (h.2) hu⟩) ⟨(by first | exact Up.refl _ | assumption), gUp⟩ (fun wS hSS hSu => ?_)
          have ⟨hS1, hSB⟩ := hSS
          refine wpAnyU_pure (i := 0) (d := (some 32)) (v := ?_) rfl rfl (by kernel_rfl) (fun _ _ _ h => h) hSu.out (Or.inl ⟨by rfl, fun w' _ => yu_value ?_⟩) ?_
          rotate_left
          · (go_simp; (try exact rfl))
          try simp only [Act.put, pu1, pu2, pu3]
          refine wpAnyU_pure (i := 1) (d := (some 33)) (v := ?_) rfl rfl (by kernel_rfl) (fun _ _ _ h => h) hSu.out (Or.inl ⟨by rfl, fun w' _ => yu_value ?_⟩) ?_
          rotate_left
          · (go_simp; (try exact rfl))
          try simp only [Act.put, pu1, pu2, pu3]
          refine wpAnyU_pure (i := 2) (d := (some 34)) (v := _) rfl rfl (by kernel_rfl) (fun _ _ _ h => h) hSu.out (Or.inl ⟨by rfl, fun w' _ => yu_value (run_tail (by omega) rfl rfl)⟩) ?_
          try simp only [Act.put, pu1, pu2, pu3]
          refine wpAnyU_take (i := 3) (d := (some 35)) (v := _) rfl rfl (by kernel_rfl) (fun _ _ _ h => h) hSu.out hSS (Or.inl ⟨by rfl, fun w' hSw => yu_value (run_ld undW infoW _ rfl _ rfl (hRow7.up hSw.1))⟩) ?_
          try simp only [Act.put, pu1, pu2, pu3]
          refine wpAnyU_pure (i := 5) (d := (some 37)) (v := ?_) rfl rfl (by kernel_rfl) (fun _ _ _ h => h) hSu.out (Or.inl ⟨by rfl, fun w' _ => yu_value ?_⟩) ?_
          rotate_left
          · (go_simp; (try exact rfl))
          try simp only [Act.put, pu1, pu2, pu3]
          refine wpAnyU_pure (i := 6) (d := (some 38)) (v := ?_) rfl rfl (by kernel_rfl) (fun _ _ _ h => h) hSu.out (Or.inl ⟨by rfl, fun w' _ => yu_value ?_⟩) ?_
          rotate_left
          · (go_simp; (try exact rfl))
          try simp only [Act.put, pu1, pu2, pu3]
          refine wpAnyU_take (i := 7) (d := (some 39)) (v := _) rfl rfl (by kernel_rfl) (fun _ _ _ h => h) hSu.out hSS (Or.inl ⟨by rfl, fun w' hSw => yu_value (run_ldW rfl rfl (HRng.out _ (hF7.up hSw.1)))⟩) ?_
          try simp only [Act.put, pu1, pu2, pu3]
          refine wpAnyU_callE (i := 4) (d := (some 36)) rfl rfl (by kernel_rfl) (by rfl) hSu.out (fun w' => by go_simp) (fun w' hw' => (HFW.out w' (hS1.trans hw'))) fun vG wG hwG hRG => ?_
          try simp only [Act.put, pu1, pu2, pu3]
          obtain ⟨bN, hbN, hON⟩ := hRG
          obtain ⟨pN, cN, rfl⟩ := hON.slice
          refine wpAnyU_pure (i := 8) (d := (some 6)) (v := ?_) rfl rfl (by kernel_rfl) (fun _ _ _ h => h) hSu.out (Or.inl ⟨by rfl, fun w' _ => yu_value ?_⟩) ?_
          rotate_left
          · (go_simp; (try exact rfl))
          try simp only [Act.put, pu1, pu2, pu3]
          refine wpAnyU_one (i := 9) rfl (by kernel_rfl) (by rfl) fun wX hwX => ?_
          refine wp_st_rowN infoW rfl _ _ rfl _ rfl rfl ((hRow7.up ((hS1.trans hwG).trans hwX))) ?_
          refine ⟨fun h => by simp at h, ?_⟩
          try simp only [Act.put, pu1, pu2, pu3]
          refine wpAnyU_done (by kernel_rfl) (fun wF huE => ?_) _
          have hUG := (hS1.trans hwG).trans hwX
          have hltb := hRow7.lt
          have gRow := ((hRow7.up hUG).setRow (limb (enc m0))).up huE
          have gO := ((hON.up hwX).below (show bL < bN by omega) (cells 16 (limb (enc m0)))).up huE
          have gW := ((hO7.up hUG).below (Nat.lt_succ_self bL) (cells 16 (limb (enc m0)))).up huE
          have gU := Up.trans (below_setRow (hU7.trans hUG) hwbL (cells 16 (limb (enc m0)))) huE
          have gOb : ∀ g, (Value.slice p6 (done ++ [m0]).length c6).ownBlock = some g → g < bN := fun g h => by have := (World.ownsRow.lt hO7 g h).2; omega
          have gT : (done ++ [m0]) ++ mins s m0 (nxt q M) = T := by
            have h := HDone.out
            rw [HM0.out, if_pos hp] at h
            rw [List.append_assoc]
            exact h
          have gM : Mat s NX (nxt q M) := HNX.out ▸ HMat.out.next
          have gS : St m0 (k + 1) (nxt q M) := by
            have h := HSt.out.next hk7 (by rw [HM0.out]; omega)
            rw [HM0.out] at h
            exact h
          have gL : (done ++ [m0]).length = done.length + 1 := by rw [List.length_append, List.length_singleton]
          rw [gL] at gW gOb
          clear hS1 hSB hSS hwG hwX huE hON hUG
          go_wp2_with fail
          go_roundg s
          case measure => omega
          case rel => exact ⟨k + 1, s, m0, nxt q M, NX, done ++ [m0], bN, Nat.le_refl _, by omega, gM, gS, gT, gO, by omega, gW, gOb, gRow, gU, by rw [gL]; omega⟩
        · have ds : decide (sgn m0 ≤ 0) = true := by unfold sgn; rw [decide_eq_true]; split <;> (try split) <;> omega
          go_wp2_with (first
            | ((with_reducible apply ldW_P); exact rfl; exact rfl; (first | exact HRng.out _ hBF | exact HRng.out _ hBF6))
            | ((with_reducible apply bsW_P); exact rfl)
            | ((with_reducible apply appW (l := done) (m := [m0])); exact rfl; exact rfl; exact OwnW.up (Up.alloc _ _) hOW; exact one_range rfl; (focus (simp; omega)); exact hDl; (focus (simp; done)); rintro v6 w6 hO6 hg6 hb6
               obtain ⟨p6, c6, rfl⟩ := hO6.slice
               have hBF6 := (hBF.up (Up.alloc _ _)).grown hg6 hne
               have hu6 : Up w w6 := Below.trans (hu.trans (Up.alloc _ _)) (Below.mono hb6 (by omega)))
            | (go_at_call 58; (with_reducible refine (HSg.out _).mono ?_); rintro r w7 ⟨rfl, hu7⟩))
          go_ret2
          have hT : done ++ [m0] = T := by
            have h := HDone.out
            rw [HM0.out, if_neg (by omega)] at h
            exact h
          have hW := (hO6.up hu7).wv
          rw [List.length_append, List.length_singleton, hT] at hW
          exact ⟨_, _, rfl, hu6.trans hu7, hW, .inl ⟨rfl, rfl⟩⟩
def Lead (s : Nat) (M : Nat → Nat → Int) (F : List Int) (M' : Nat → Nat → Int) : Prop :=
  F.length = s + 1 ∧ (∀ j, j < s + 1 → zth F j = M' 0 j) ∧ M' 0 0 ≠ 0 ∧ (M' = M ∨ ∃ i, i ≠ 0 ∧ i < s + 1 ∧ M' = add0 i M)
theorem bb2_bp {k : Nat} (h : k ≤ 7) : 2 * bb k 0 < bp 5 := by
  rw [bp5_is]
  rcases k with _ | _ | _ | _ | _ | _ | _ | _ | k
  · decide +kernel
  · decide +kernel
  · decide +kernel
  · decide +kernel
  · decide +kernel
  · decide +kernel
  · decide +kernel
  · decide +kernel
  · omega
theorem Lead.good {s k : Nat} {q : Int} {M M' : Nat → Nat → Int} {F : List Int} (h : Lead s M F M') (hs : St q k M) : Good q (fun r => 2 * bb k r) M' := by
  rcases h.2.2.2 with rfl | ⟨i, _, _, rfl⟩
  · exact hs.1.mono fun r => by omega
  · exact hs.1.add0 i
theorem Lead.next {s k : Nat} {q : Int} {M M' : Nat → Nat → Int} {F : List Int} (h : Lead s M F M') (hs : St q k M) (hk : k ≤ 7) : St (M' 0 0) (k + 1) (nxt q M') :=
  ⟨((h.good hs).next hs.2.1 h.2.2.1).mono fun r => by rw [bb_succ]; exact Nat.le_refl _, h.2.2.1, Nat.lt_of_le_of_lt ((h.good hs).entry 0 0) (bb2_bp hk)⟩
theorem Lead.few {s k : Nat} {q : Int} {M M' : Nat → Nat → Int} {F : List Int} (h : Lead s M F M') (hs : St q k M) (hk : k ≤ 7) : Few F := fun j => by
  by_cases hj : j < s + 1
  · rw [h.2.1 j hj]; exact Nat.lt_of_le_of_lt ((h.good hs).entry 0 j) (bb2_bp hk)
  · rw [zth_far (by rw [h.1]; omega)]; exact bp_pos 5
theorem Lead.full {s : Nat} {q D : Int} {M M' : Nat → Nat → Int} {F : List Int} (h : Lead s M F M') {k : Nat} (hs : St q k M) (hf : Full q (s + 1) M D) : Full (M' 0 0) s (nxt q M') D := by
  refine Full.next (h.good hs) hs.2.1 h.2.2.1 ?_
  rcases h.2.2.2 with rfl | ⟨i, h0, h1, rfl⟩
  · exact hf
  · exact hf.add0 (by omega) h0 h1
theorem ErrsE.setRow {w : World} {g : Nat} {C D : Array Value} {u : Value} {e : Int} (h : ErrsE w u e) (hB : Blk w g 33 C) : ErrsE (w.setRow g D) u e := by
  rcases h with h | ⟨h1, t, x, rfl, h2⟩
  · exact .inl h
  · refine .inr ⟨h1, t, x, rfl, ?_⟩
    obtain ⟨b, v, e1, e2, e3⟩ := h2
    refine ⟨b, v, e1, e2.row_other _ ?_, e3⟩
    rintro rfl
    unfold Blk at e2 hB
    rw [hB] at e2
    simp at e2
def detC (N : Int) (l : List Int) : Int := if rt N l then 0 else 23
def detV (N : Int) (l : List Int) : Int := if rt N l then det N.toNat (AM N.toNat l) else 0
def dfV (N : Int) (l : List Int) : Bool := (mnR N l).all (fun x => decide (0 < x)) && rt N l
theorem mnR_few {N : Int} {l : List Int} : ∀ i, i < (mnR N l).length → (zth (mnR N l) i).natAbs < bp 5 := by
  unfold mnR
  cases hR : rt N l with
  | false => intro i hi; exact absurd hi (Nat.not_lt_zero _)
  | true =>
    obtain ⟨n0, n8, _, _⟩ := rt_spec hR
    obtain ⟨n, rfl⟩ : ∃ n : Nat, N = (n : Int) := ⟨N.toNat, by omega⟩
    rw [if_pos rfl]
    have key : ∀ s k q M, s + k ≤ 8 → St q k M → ∀ i, i < (mins s q M).length → (zth (mins s q M) i).natAbs < bp 5 := by
      intro s
      induction s with
      | zero => intro k q M _ _ i hi; exact absurd hi (Nat.not_lt_zero _)
      | succ s ih =>
        intro k q M hk hs i hi
        have e : mins (s + 1) q M = M 0 0 :: (if 0 < M 0 0 then mins s (M 0 0) (nxt q M) else []) := rfl
        rw [e] at hi ⊢
        rcases i with _ | i
        · exact hs.entry (by omega) 0 0
        · by_cases hp : 0 < M 0 0
          · rw [if_pos hp] at hi ⊢
            exact ih (k + 1) _ _ (by omega) (hs.next (by omega) (by omega)) i (by simpa using hi)
          · rw [if_neg hp] at hi; simp at hi
    exact key n 0 1 _ (by omega) (by rw [show ((n : Int)).toNat = n by omega]; exact St.start hR)
theorem mnR_len {N : Int} {l : List Int} : (mnR N l).length ≤ 8 := by
  unfold mnR
  cases hR : rt N l with
  | false => simp
  | true =>
    obtain ⟨n0, n8, _, _⟩ := rt_spec hR
    rw [if_pos rfl]
    have := mins_len N.toNat 1 (AM N.toNat l)
    omega
set_option maxHeartbeats 8000000 in
theorem definite_any {v : Value} {N : Int} {l : List Int} {w : World} (hm : Sm w v N l) :
    Calls Tryz.prog 19 #[v] w fun r w' => r = .returned (.bool (dfV N l)) ∧ Up w w' := by
  have HMI := hid (fun w' (hu : Up w w') => minors_any (hm.up hu))
  obtain ⟨s, rfl, ⟨p, cap, rfl, -, -⟩, -, -, -⟩ := hm
  obtain ⟨W0, hW0⟩ : ∃ W0, w.alloc (.cells #[.int .i64 N, .slice p l.length cap] 24) = W0 := ⟨_, rfl⟩
  have hB : Blk W0 w.heap.size 24 #[.int .i64 N, .slice p l.length cap] := by rw [← hW0]; exact Blk.new _ _ rfl
  have hU : Up w W0 := by rw [← hW0]; exact Up.alloc _ _
  have HF := hid (mnR_few (N := N) (l := l))
  have HLn := hid (mnR_len (N := N) (l := l))
  obtain ⟨T, hT⟩ : ∃ T, mnR N l = T := ⟨_, rfl⟩
  obtain ⟨C, hC⟩ : ∃ C, mnC N l = C := ⟨_, rfl⟩
  obtain ⟨o, ho⟩ : ∃ o, dfV N l = o := ⟨_, rfl⟩
  have HOo : Hid (o = (T.all (fun x => decide (0 < x)) && decide (C = 0))) := hid (by
    rw [← ho, ← hT, ← hC]
    unfold dfV mnC
    cases rt N l <;> simp)
  rw [hT] at HMI HF HLn
  rw [hC] at HMI
  rw [ho]
  clear hT hC ho
  go_enter Tryz.func19, Tryz.ntmps19
  go_wp2_with (first
    | ((with_reducible apply ldM_P); exact rfl; exact rfl; exact hB; exact rfl)
    | (go_at_call 16; (with_reducible refine (HMI.out _ hU).mono ?_); rintro r w1 ⟨z1, u1, rfl, hu1, hW1, he1⟩; obtain ⟨p1, c1, rfl⟩ := hW1.slice))
  have hU1 := hU.trans hu1
  clear hW0 hu1 hB hU HMI
  go_loopg [14] (T.length + 1) (fun g ti wr => ∃ i : Nat, i ≤ T.length ∧ T.length - i ≤ g ∧ ti = .int .i64 (i : Nat) ∧ (∀ j, j < i → 0 < zth T j) ∧ Up w1 wr)
  case atStart => exact ⟨0, Nat.zero_le _, by omega, rfl, fun j hj => absurd hj (Nat.not_lt_zero _), Up.refl _⟩
  case round =>
    obtain ⟨i, hi, hig, rfl, hpos, hu⟩ := hrel
    have HPo := hid hpos
    clear hpos
    by_cases hlt : i < T.length
    · obtain ⟨g1, c9, C1, hv, hc9, hB1, ht1⟩ := hW1.open (by omega)
      injection hv with x1 x2 x3
      subst x1 x3
      have HR1 := hid (fun w' (hB : Blk w' g1 33 C1) => wv_range hB ht1 hlt)
      have HSg := hid (fun w => sign_z (few_inR (k := 5) (by omega) (HF.out i hlt)) w)
      have hBr := hB1.up hu
      have e1 : IntKind.i64.wrap ((i : Int) + 1) = (i : Int) + 1 := IntWalk.i64_in _ (by have := HLn.out; omega)
      unfold wideV at HSg
      clear ht1 x2 hc9
      obtain ⟨z, hz⟩ : ∃ z, zth T i = z := ⟨_, rfl⟩
      rw [hz] at HR1 HSg
      have HZ := hid hz
      clear hz
      by_cases hp : 0 < z
      · have ds : decide (sgn z ≤ 0) = false := by unfold sgn; rw [decide_eq_false]; split <;> (try split) <;> omega
        have HP := hid hp
        clear hp
        go_wp2_with (first
          | ((with_reducible apply ldW_P); exact rfl; exact rfl; exact HR1.out _ hBr)
          | ((with_reducible apply ld_rowP undW infoW); exact rfl; exact rfl; exact gRow)
          | ((with_reducible apply st_rowP infoW); exact rfl; exact rfl; exact row_newz _ rfl
             refine wpL_folded (fun wd => Up wr wd ∧ Row wd wr.heap.size 33 16 (limb (enc z))) ⟨gUp, gRow⟩ ?_
             rintro wL ⟨hXL, hRL⟩)
          | (go_at_call 58; (with_reducible refine (HSg.out _).mono ?_); rintro r w3 ⟨rfl, hu3⟩))
        go_roundg (T.length - (i + 1))
        case measure => omega
        case rel => exact ⟨i + 1, hlt, Nat.le_refl _, rfl, fun j hj => by
          rcases Nat.lt_succ_iff_lt_or_eq.1 hj with h | h
          · exact HPo.out j h
          · rw [h, HZ.out]; exact HP.out, hu.trans (hXL.trans hu3)⟩
      · have ds : decide (sgn z ≤ 0) = true := by unfold sgn; rw [decide_eq_true]; split <;> (try split) <;> omega
        have HP := hid hp
        clear hp
        go_wp2_with (first
          | ((with_reducible apply ldW_P); exact rfl; exact rfl; exact HR1.out _ hBr)
          | ((with_reducible apply ld_rowP undW infoW); exact rfl; exact rfl; exact gRow)
          | ((with_reducible apply st_rowP infoW); exact rfl; exact rfl; exact row_newz _ rfl
             refine wpL_folded (fun wd => Up wr wd ∧ Row wd wr.heap.size 33 16 (limb (enc z))) ⟨gUp, gRow⟩ ?_
             rintro wL ⟨hXL, hRL⟩)
          | (go_at_call 58; (with_reducible refine (HSg.out _).mono ?_); rintro r w3 ⟨rfl, hu3⟩))
        go_ret
        have ho : o = false := by
          rw [HOo.out, Bool.and_eq_false_iff]
          refine .inl (List.all_eq_false.2 ⟨z, ?_, by have := HP.out; simpa using this⟩)
          rw [← HZ.out, zth_get hlt]
          exact List.getElem_mem _
        exact ⟨by rw [ho]; rfl, hU1.trans (hu.trans (hXL.trans hu3))⟩
    · obtain rfl : i = T.length := by omega
      have hall : T.all (fun x => decide (0 < x)) = true := List.all_eq_true.2 fun x hx => by
        obtain ⟨j, hj, rfl⟩ := List.mem_iff_getElem.1 hx
        have := HPo.out j hj
        rw [zth_get hj] at this
        exact decide_eq_true this
      have hoo := HOo.out
      rw [hall, Bool.true_and] at hoo
      have HOO := hid hoo
      clear hoo hall
      rcases he1 with ⟨h0, rfl⟩ | ⟨h0, t, x, rfl, -⟩
      · have HO2 : Hid (o = true) := hid (by rw [HOO.out]; exact decide_eq_true h0)
        clear h0
        go_wp2_with fail
        go_ret
        exact ⟨by rw [HO2.out]; rfl, hU1.trans hu⟩
      · have HO2 : Hid (o = false) := hid (by rw [HOO.out]; exact decide_eq_false h0)
        clear h0
        go_wp2_with fail
        go_ret
        exact ⟨by rw [HO2.out]; rfl, hU1.trans hu⟩
def RInv (w : World) (base bx rs : Nat) (n : Int) (sA : Value) (new old : List Int) (p : Nat) (wr : World) : Prop :=
  OwnI wr base sA (mixed new old p) ∧ (∀ q, q < p → fit (zth new q) = true) ∧ Blk wr bx 24 #[.int .i64 n, sA] ∧ Blk wr rs 24 #[.int .i64 0, .slice none 0 0] ∧ Up w wr
theorem In64.mixed {new old : List Int} (hl : new.length = old.length) (h : In64 old) {p : Nat} (hf : ∀ q, q < p → fit (zth new q) = true) : In64 (mixed new old p) := by
  intro i hi
  rw [mixed_len hl] at hi
  rw [mixed_get hl _ hi]
  split
  · rename_i h1; exact fit_i64 (hf i h1)
  · exact h i hi
theorem OwnI.sm {w : World} {base : Nat} {s : Value} {l : List Int} {N : Int} (h : OwnI w base s l) (hN : I64 N) (hl : In64 l) (hn : l.length ≤ 1000) : Sm w (.agg #[.int .i64 N, s]) N l := ⟨s, rfl, h.vw, hN, hl, hn⟩
set_option maxHeartbeats 8000000 in
theorem rdiag_any {v : Value} {N : Int} {l : List Int} (x : Int) {w : World} (hm : Sm w v N l) (hx : I64 x) :
    Calls Tryz.prog 50 #[v, .int .i64 x] w (RSymPost w (diN N l x) (diR N l x) (diC N l x)) := by
  have HR := hid (fun w' (hu : Up w w') => rright_any (hm.up hu))
  have HCP := hid (fun w' (hu : Up w w') => copy_any (hm.up hu))
  obtain ⟨s, rfl, hV, hN, hl, hlen⟩ := hm
  obtain ⟨p, cap, rfl, hcap, hc⟩ := hV
  obtain ⟨W0, hW0⟩ : ∃ W0, (w.alloc (.cells #[.int .i64 N, .slice p l.length cap] 24)).alloc (.cells #[.int .i64 0, .slice none 0 0] 24) = W0 := ⟨_, rfl⟩
  have hB : Blk W0 w.heap.size 24 #[.int .i64 N, .slice p l.length cap] := by rw [← hW0]; exact (Blk.new _ _ rfl).old _
  have hQ : Blk W0 (w.heap.size + 1) 24 #[.int .i64 0, .slice none 0 0] := by rw [← hW0]; exact Blk.new _ _ (by simp)
  have hU : Up w W0 := by rw [← hW0]; exact (Up.alloc _ _).trans (Up.alloc _ _)
  cases hR : rt N l with
  | false =>
    have e : diC N l x = 23 := by unfold diC; rw [hR]; rfl
    have e2 : diR N l x = [] := by unfold diR; rw [e]; rfl
    have e3 : diN N l x = 0 := by unfold diN; rw [e]; rfl
    rw [e, e2, e3]
    rw [hR] at HR
    clear e e2 e3 hR hc hl hN
    go_enter Tryz.func50, Tryz.ntmps50
    go_wp2_with (first
      | ((with_reducible apply ldM_P); exact rfl; exact rfl; exact hB; exact rfl)
      | (go_at_call 17; (with_reducible refine (HR.out _ hU).mono ?_); rintro r w1 ⟨rfl, hu1⟩; replace hQ := hQ.up hu1)
      | ((with_reducible apply stM_P); exact rfl; exact rfl; exact hQ; exact rfl; exact rfl; exact two2 _ _ _ _ _))
    exact bodyPost_ret (resMs (u := .int .i64 23) rfl rfl rfl (hQ.setRow _) rfl) rfl (RSymPost.err 23 (hU.trans hu1) (by omega))
  | true =>
    rw [hR] at HR
    obtain ⟨n0, n8, htri, _⟩ := rt_spec hR
    obtain ⟨n, rfl⟩ : ∃ n : Nat, N = (n : Int) := ⟨N.toNat, by omega⟩
    rw [tri_nat] at htri
    have n8' : n ≤ 8 := by omega
    have hln : l.length = triN n := by omega
    have eN : ((n : Int)).toNat = n := by omega
    obtain ⟨L', hL'⟩ : ∃ L', diL n l x = L' := ⟨_, rfl⟩
    have HlL : Hid (L'.length = l.length) := hid (by rw [← hL', diL_len])
    have Hat : Hid (∀ i, i < n → zth L' (pos n i i) = zth l (pos n i i) + x) := hid (fun i hi => by rw [← hL', diL_at x n8' hln (Nat.le_refl _) hi, if_pos rfl])
    have Hrow : Hid (∀ i q, i < n → pos n i i + 1 ≤ q → q < pos n (i + 1) (i + 1) → zth L' q = zth l q) := hid (fun i q hi h1 h2 => by rw [← hL']; exact diL_row x n8' hln hi h1 h2)
    have Hfl := hid (rt_spec hR).2.2.2
    obtain ⟨hc9, hd9⟩ : (∀ k, k < L'.length → fit (zth L' k) = false → RSymPost w (diN n l x) (diR n l x) (diC n l x) = RSymPost w 0 [] 21) ∧
        ((∀ k, k < L'.length → fit (zth L' k) = true) → RSymPost w (diN n l x) (diR n l x) (diC n l x) = RSymPost w n L' 0) := by
      refine ⟨fun k hk hf => ?_, fun hf => ?_⟩
      · have e : diC n l x = 21 := by unfold diC; rw [hR, eN, hL', all_no hk hf]; rfl
        unfold diN diR; rw [e]; rfl
      · have e : diC n l x = 0 := by unfold diC; rw [hR, eN, hL', all_yes hf]; rfl
        unfold diN diR; rw [e, if_pos rfl, if_pos rfl, eN, hL']
    have Hbad := hid hc9
    have Hgood := hid hd9
    obtain ⟨PP, hPP⟩ : ∃ PP, RSymPost w (diN n l x) (diR n l x) (diC n l x) = PP := ⟨_, rfl⟩
    rw [hPP] at Hbad Hgood ⊢
    have HN64 := hid hN
    have HLn := hid hln
    have Hl64 := hid hl
    have hx64 := hid hx
    have HOx := hid (fun w => of_big x hx.1 hx.2 w)
    clear hPP hc9 hd9 hL' hc hl hx hR htri hln hN eN hcap n0 n8
    go_enter Tryz.func50, Tryz.ntmps50
    go_wp2_with (first
      | ((with_reducible apply ldM_P); exact rfl; exact rfl; exact hB; exact rfl)
      | (go_at_call 17; (with_reducible refine (HR.out _ hU).mono ?_); rintro r w1 ⟨rfl, hu1⟩; replace hQ := hQ.up hu1; replace hB := hB.up hu1; replace hU := hU.trans hu1)
      | (go_at_call 14; (with_reducible refine (HCP.out _ hU).mono ?_); rintro r w2 ⟨sA, rfl, hu2, hO⟩; have hlt := hB.lt; have hlt2 := hQ.lt; replace hQ := hQ.up hu2; replace hB := hB.up hu2; replace hU := hU.trans hu2; obtain ⟨pA, nA, cA, rfl⟩ := OwnI.slice hO; have hO2 := OwnI.setRow (D := #[.int .i64 (n : Int), .slice pA nA cA]) hO hB; have hB2 := hB.setRow #[.int .i64 (n : Int), .slice pA nA cA]; have hQ2 := Blk.row_other hQ #[.int .i64 (n : Int), .slice pA nA cA] (show w.heap.size + 1 ≠ w.heap.size by omega); have hU2 := below_setRow hU (Nat.le_refl _) #[.int .i64 (n : Int), .slice pA nA cA])
      | ((with_reducible apply stM_P); exact rfl; exact rfl; exact hB; exact rfl; exact rfl; exact two2 _ _ _ _ _))
    obtain ⟨base, hbase⟩ : ∃ b, w1.heap.size = b := ⟨_, rfl⟩
    have hbs : w.heap.size + 1 < base := by omega
    rw [hbase] at hO2
    clear hbase hlt hlt2 hu1 hu2 hO hB hQ hU
    go_loopg [6] n (fun g ti wr => ∃ i : Nat, i ≤ n ∧ n - i ≤ g ∧ ti = .int .i64 (i : Nat) ∧ RInv w base w.heap.size (w.heap.size + 1) n (.slice pA nA cA) L' l (pos n i i) wr)
    case atStart => exact ⟨0, Nat.zero_le _, by omega, rfl, by rw [pos_zero, mixed_zero]; exact hO2, fun q hq => by rw [pos_zero] at hq; omega, hB2, hQ2, hU2⟩
    case round =>
      clear hB2 hQ2 hU2 hO2
      obtain ⟨i, hi, hig, rfl, hO, hfits, hB, hQ, hU⟩ := hrel
      have hc0 := hB.cell 0 rfl
      by_cases hlt : i < n
      · have e1 : IntKind.i64.wrap ((i : Int) + 1) = (i : Int) + 1 := IntWalk.i64_in _ (by omega)
        have hkl : pos n i i < l.length := by rw [HLn.out]; exact pos_lt (Nat.le_refl _) hlt
        have hM64 := In64.mixed HlL.out Hl64.out hfits
        have HSm := hid (hO.sm HN64.out hM64 (by rw [mixed_len HlL.out]; exact hlen))
        have HAt := hid (fun w' (hu : Up wr w') => rat_ent2 (HSm.out.up hu) n8' (by rw [mixed_len HlL.out]; exact HLn.out) (Nat.le_refl i) hlt)
        have hat := Hat.out i hlt
        have HX := hid (fun w => (pos_idx (Nat.le_refl i) hlt) ▸ rat_any (n : Int) (i : Int) (i : Int) (by omega) (by omega) (by omega) (by omega) (by omega) w)
        have Hro := hid (fun q => Hrow.out i q hlt)
        have HP := hid (pos_row hlt)
        have HFit := hid hfits
        have HPS : Hid (pos n i i + 1 ≤ pos n (i + 1) (i + 1) ∧ pos n (i + 1) (i + 1) ≤ l.length) := hid (by rw [HLn.out]; have := pos_row hlt; unfold pos at *; omega)
        obtain ⟨k, hk⟩ : ∃ k, pos n i i = k := ⟨_, rfl⟩
        have HK := hid hk
        rw [hk] at hkl HAt hat hO HX Hro HFit HPS
        obtain ⟨g, cp, C, hv, hbg, -⟩ := hO.open (by rw [mixed_len HlL.out]; omega)
        injection hv with x1 x2 x3
        rw [mixed_len HlL.out] at x2
        subst x1 x2 x3
        have hmx : zth (mixed L' l k) k = zth l k := mixed_at HlL.out hkl
        rw [hmx] at HAt
        have hak := Hl64.out k hkl
        have HOk := hid (fun w => of_big (zth l k) hak.1 hak.2 w)
        have n1 := nl_bp (by omega) (i64_bp hak)
        have n2 := nl_bp (by omega) (i64_bp hx64.out)
        have n3 : nl (zth l k + x).natAbs < 50000 := nl_bp (k := 2) (by omega) (by
          have b1 := i64_bp hak
          have b2 := i64_bp hx64.out
          have b3 : bp 2 = bp 1 * 18446744073709551616 := bp_succ 1
          have b4 := bp_pos 1
          omega)
        rw [← hat] at n3
        have HS9 := hid (mixed_set HlL.out hkl)
        have HML := hid (mixed_len HlL.out k)
        have HAD := hid (fun (va vb : Value) (w : World) (ha : Big w va (zth l k)) (hb : Big w vb x) => hat ▸ add_big ha hb n1 n2)
        clear hat n1 n2 hak hk hM64 hfits
        obtain ⟨z9, hz9'⟩ : ∃ z, zth L' k = z := ⟨_, rfl⟩
        have HZ9 := hid hz9'
        rw [hz9'] at HS9 n3 HAD
        clear hz9' hmx
        generalize zth l k = ak at *
        obtain ⟨M, hM9⟩ : ∃ M, mixed L' l k = M := ⟨_, rfl⟩
        rw [hM9] at hO HS9 HML
        clear hM9 HSm
        have hkM : k < M.length := by rw [HML.out]; exact hkl
        have HN3 := hid n3
        clear n3
        cases hf : fit z9 with
        | false =>
          have HF9 := hid (fun (va : Value) (w : World) (hb : Big w va z9) => hf ▸ rfits_any hb HN3.out)
          have Hf := hid hf
          clear hf
          go_wp2_with (first
            | ((with_reducible apply ldM_P); exact rfl; exact rfl; exact hB; exact rfl)
            | ((with_reducible apply stB_P); exact rfl; exact rfl; exact gBlk; exact rfl; exact rfl; exact one2 _ _ _ _)
            | ((with_reducible apply ldB_P); exact rfl; exact rfl; exact gBlk; exact rfl)
            | (go_at_call 27; (with_reducible refine (HAt.out _ (Up.refl _)).mono ?_); rintro r w3 ⟨rfl, hu3⟩)
            | (go_at_call 46; first
                | ((with_reducible refine (HOk.out _).mono ?_); rintro r w4 ⟨hu4, u4, rfl, hb4⟩)
                | ((with_reducible refine (HOx.out _).mono ?_); rintro r w5 ⟨hu5, u5, rfl, hb5⟩))
            | (go_at_call 45; (with_reducible refine (HAD.out _ _ _ (hb4.up hu5) hb5).mono ?_); rintro r w6 ⟨hu6, u6, rfl, hb6⟩; obtain ⟨bb, ba, bn, bc, rfl⟩ := hb6.shape; have hu36 := ((hu3.trans hu4).trans hu5).trans hu6; have hBg := (Blk.new (w := w6) (b := w6.heap.size) 46 #[.bool false, .slice none 0 0] rfl).setRow #[.bool bb, .slice ba bn bc]; have hbg6 : Big _ _ z9 := big_set (D := #[.bool bb, .slice ba bn bc]) (Blk.new (w := w6) (b := w6.heap.size) 46 #[.bool false, .slice none 0 0] rfl) (big_alloc hb6); have hu6X := hu36.trans (below_setRow (Up.alloc w6 (.cells #[.bool false, .slice none 0 0] 46)) (Nat.le_refl _) #[.bool bb, .slice ba bn bc]))
            | (go_at_call 77; (with_reducible refine (HF9.out _ _ hbg6).mono ?_); rintro r w7 ⟨rfl, hu7⟩; replace hQ := (hQ.up hu6X).up hu7)
            | ((with_reducible apply stM_P); exact rfl; exact rfl; exact hQ; exact rfl; exact rfl; exact two2 _ _ _ _ _))
          rw [Hbad.out k (by rw [HlL.out]; exact hkl) (by rw [HZ9.out]; exact Hf.out)]
          exact bodyPost_ret (resMs (u := .int .i64 21) rfl rfl rfl (hQ.setRow _) rfl) rfl (RSymPost.err 21 ((hU.trans hu6X).trans hu7) (by omega))
        | true =>
          have HF9 := hid (fun (va : Value) (w : World) (hb : Big w va z9) => hf ▸ rfits_any hb HN3.out)
          have Hf := hid hf
          have HIn := hid (fun (va : Value) (w : World) (hb : Big w va z9) => (i64V_yes (fit_i64 hf)) ▸ int64_big hb HN3.out)
          clear hf
          go_wp2_with (first
            | ((with_reducible apply ldM_P); exact rfl; exact rfl; exact hB; exact rfl)
            | ((with_reducible apply stB_P); exact rfl; exact rfl; exact gBlk; exact rfl; exact rfl; exact one2 _ _ _ _)
            | ((with_reducible apply ldB_P); exact rfl; exact rfl; exact gBlk; exact rfl)
            | (go_at_call 27; (with_reducible refine (HAt.out _ (Up.refl _)).mono ?_); rintro r w3 ⟨rfl, hu3⟩)
            | (go_at_call 46; first
                | ((with_reducible refine (HOk.out _).mono ?_); rintro r w4 ⟨hu4, u4, rfl, hb4⟩)
                | ((with_reducible refine (HOx.out _).mono ?_); rintro r w5 ⟨hu5, u5, rfl, hb5⟩))
            | (go_at_call 45; (with_reducible refine (HAD.out _ _ _ (hb4.up hu5) hb5).mono ?_); rintro r w6 ⟨hu6, u6, rfl, hb6⟩; obtain ⟨bb, ba, bn, bc, rfl⟩ := hb6.shape; have hu36 := ((hu3.trans hu4).trans hu5).trans hu6; have hBg := (Blk.new (w := w6) (b := w6.heap.size) 46 #[.bool false, .slice none 0 0] rfl).setRow #[.bool bb, .slice ba bn bc]; have hbg6 : Big _ _ z9 := big_set (D := #[.bool bb, .slice ba bn bc]) (Blk.new (w := w6) (b := w6.heap.size) 46 #[.bool false, .slice none 0 0] rfl) (big_alloc hb6); have hu6X := hu36.trans (below_setRow (Up.alloc w6 (.cells #[.bool false, .slice none 0 0] 46)) (Nat.le_refl _) #[.bool bb, .slice ba bn bc]))
            | (go_at_call 77; (with_reducible refine (HF9.out _ _ hbg6).mono ?_); rintro r w7 ⟨rfl, hu7⟩; replace hQ := (hQ.up hu6X).up hu7; replace hB := (hB.up hu6X).up hu7; replace hO := (hO.up hu6X).up hu7; replace hbg6 := hbg6.up hu7; replace hBg := hBg.up hu7; replace hU := (hU.trans hu6X).trans hu7))
          have hq0 := hB.cell 0 rfl
          have hq1 := hB.cell 1 rfl
          obtain ⟨b7, hb7⟩ : ∃ b, w6.heap.size = b := ⟨_, rfl⟩
          rw [hb7] at hBg
          rw [hb7]
          clear hb7 hu36 hu6X hu3 hu4 hu5 hu6 hb4 hb5 hb6 hc0
          refine wp_region_upH (S := (fun wq => Blk wq w.heap.size 24 #[.int .i64 (n : Int), .slice (some ⟨g, 0, none⟩) l.length cA] ∧ wq.cell? ⟨w.heap.size, 0, none⟩ = some (.int .i64 (n : Int)) ∧ wq.cell? ⟨w.heap.size, 1, none⟩ = some (.slice (some ⟨g, 0, none⟩) l.length cA) ∧ Blk wq b7 46 #[.bool bb, .slice ba bn bc] ∧ Big wq (.agg #[.bool bb, .slice ba bn bc]) z9 ∧ OwnI wq base (.slice (some ⟨g, 0, none⟩) l.length cA) M ∧ Blk wq (w.heap.size + 1) 24 #[.int .i64 0, .slice none 0 0] ∧ Below w.heap.size w wq)) (req := (fun j => j != 13)) (by kernel_rfl) (fun _ _ h hu => ⟨(h.1).up hu, hu.cell (h.2.1), hu.cell (h.2.2.1), (h.2.2.2.1).up hu, (h.2.2.2.2.1).up hu, (h.2.2.2.2.2.1).up hu, (h.2.2.2.2.2.2.1).up hu, below_up (h.2.2.2.2.2.2.2) hu⟩) ⟨gBlk, (by first | assumption | (apply Blk.cell; exact gBlk; exact rfl)), (by first | assumption | (apply Blk.cell; exact gBlk; exact rfl)), gBlk, (by (repeat (first | assumption | ((with_reducible apply big_set); exact gBlk) | (with_reducible apply big_alloc) | ((with_reducible apply big_up); assumption))); done), (by assumption), gBlk, gUp⟩ (fun wS hSS hSu => ?_)
          have ⟨hS1, hS2, hS3, hS4, hS5, hS6, hS7, hSB⟩ := hSS
          refine wpAnyU_pure (i := 0) (d := (some 33)) (v := ?_) rfl rfl (by kernel_rfl) (fun _ _ _ h => h) hSu.out (Or.inl ⟨by rfl, fun w' _ => yu_value ?_⟩) ?_
          rotate_left
          · (go_simp; (try exact rfl))
          try simp only [Act.put, pu1, pu2, pu3]
          refine wpAnyU_take (i := 1) (d := (some 34)) (v := ?_) rfl rfl (by kernel_rfl) (fun _ _ _ h => h) hSu.out hSS (Or.inl ⟨by rfl, fun w' hSw => yu_value ?_⟩) ?_
          rotate_left
          · ((try dsimp only at hSw); (try obtain ⟨_, _, _, _, _, _, _, _⟩ := hSw); go_simp; (try exact rfl))
          try simp only [Act.put, pu1, pu2, pu3]
          refine wpAnyU_pure (i := 2) (d := (some 35)) (v := ?_) rfl rfl (by kernel_rfl) (fun _ _ _ h => h) hSu.out (Or.inl ⟨by rfl, fun w' _ => yu_value ?_⟩) ?_
          rotate_left
          · (go_simp; (try exact rfl))
          try simp only [Act.put, pu1, pu2, pu3]
          refine wpAnyU_take (i := 3) (d := (some 36)) (v := ?_) rfl rfl (by kernel_rfl) (fun _ _ _ h => h) hSu.out hSS (Or.inl ⟨by rfl, fun w' hSw => yu_value ?_⟩) ?_
          rotate_left
          · ((try dsimp only at hSw); (try obtain ⟨_, _, _, _, _, _, _, _⟩ := hSw); go_simp; (try exact rfl))
          try simp only [Act.put, pu1, pu2, pu3]
          refine wpAnyU_pure (i := 4) (d := (some 37)) (v := ?_) rfl rfl (by kernel_rfl) (fun _ _ _ h => h) hSu.out (Or.inl ⟨by rfl, fun w' _ => yu_value ?_⟩) ?_
          rotate_left
          · (go_simp; (try exact rfl))
          try simp only [Act.put, pu1, pu2, pu3]
          refine wpAnyU_pure (i := 5) (d := (some 38)) (v := ?_) rfl rfl (by kernel_rfl) (fun _ _ _ h => h) hSu.out (Or.inl ⟨by rfl, fun w' _ => yu_value ?_⟩) ?_
          rotate_left
          · (go_simp; (try exact rfl))
          try simp only [Act.put, pu1, pu2, pu3]
          refine wpAnyU_take (i := 6) (d := (some 39)) (v := _) rfl rfl (by kernel_rfl) (fun _ _ _ h => h) hSu.out hSS (Or.inl ⟨by rfl, fun w' hSw => yu_call ?_ ((HX.out _).mono fun _ _ h => ⟨h.1, by rw [h.2]; exact Up.refl _⟩)⟩) ?_
          · go_simp
          try simp only [Act.put, pu1, pu2, pu3]
          refine wpAnyU_take (i := 7) (d := (some 40)) (v := _) rfl rfl (by kernel_rfl) (fun _ _ _ h => h) hSu.out hSS (Or.inl ⟨by rfl, fun w' hSw => yu_value (run_ldB rfl rfl hSw.2.2.2.1 rfl)⟩) ?_
          try simp only [Act.put, pu1, pu2, pu3]
          refine wpAnyU_take (i := 8) (d := (some 41)) (v := _) rfl rfl (by kernel_rfl) (fun _ _ _ h => h) hSu.out hSS (Or.inl ⟨by rfl, fun w' hSw => yu_call ?_ (HIn.out _ _ hSw.2.2.2.2.1)⟩) ?_
          · go_simp
          try simp only [Act.put, pu1, pu2, pu3]
          refine wpAnyU_pure (i := 9) (d := (some 32)) (v := ?_) rfl rfl (by kernel_rfl) (fun _ _ _ h => h) hSu.out (Or.inl ⟨by rfl, fun w' _ => yu_value ?_⟩) ?_
          rotate_left
          · (go_simp; (try exact rfl))
          try simp only [Act.put, pu1, pu2, pu3]
          refine wpAnyU_pure (i := 10) (d := (some 42)) (v := ?_) rfl rfl (by kernel_rfl) (fun _ _ _ h => h) hSu.out (Or.inl ⟨by rfl, fun w' _ => yu_value ?_⟩) ?_
          rotate_left
          · (go_simp; (try exact rfl))
          try simp only [Act.put, pu1, pu2, pu3]
          refine wpAnyU_pure (i := 11) (d := (some 43)) (v := ?_) rfl rfl (by kernel_rfl) (fun _ _ _ h => h) hSu.out (Or.inl ⟨by rfl, fun w' _ => yu_value ?_⟩) ?_
          rotate_left
          · (go_simp; (try exact rfl))
          try simp only [Act.put, pu1, pu2, pu3]
          refine wpAnyU_pure (i := 12) (d := (some 44)) (v := ?_) rfl rfl (by kernel_rfl) (fun _ _ _ h => h) hSu.out (Or.inl ⟨by rfl, fun w' _ => yu_value ?_⟩) ?_
          rotate_left
          · (go_simp; (try exact rfl))
          try simp only [Act.put, pu1, pu2, pu3]
          refine wpAnyU_one (i := 13) rfl (by kernel_rfl) (by rfl) fun wZ hwZ => ?_
          obtain ⟨hcW, hfW⟩ := (hS6.up hwZ).cells hkM
          go_simp
          clear hcW hfW
          refine wpAnyU_done (by kernel_rfl) (fun wF huE => ?_) _
          have hne1 : w.heap.size ≠ g := by omega
          have hne2 : w.heap.size + 1 ≠ g := by omega
          have hO5 := ((hS6.up hwZ).set hkM z9).up huE
          rw [HS9.out, mixed_same HlL.out HPS.out.1 HPS.out.2 (fun q h1 h2 => Hro.out q h1 h2)] at hO5
          have hB5 := ((hS1.up hwZ).other ⟨g, k, none⟩ (.int .i64 z9) hne1).up huE
          have hQ5 := ((hS7.up hwZ).other ⟨g, k, none⟩ (.int .i64 z9) hne2).up huE
          have hU5 := below_up ((below_up hSB hwZ).setCell (p := ⟨g, k, none⟩) (show w.heap.size ≤ g by omega) (.int .i64 z9)) huE
          have HFF : Hid (∀ q, q < pos n (i + 1) (i + 1) → fit (zth L' q) = true) := hid (fun q hq => by
            rcases Nat.lt_trichotomy q k with h1 | h1 | h1
            · exact HFit.out q h1
            · rw [h1, HZ9.out]; exact Hf.out
            · rw [Hro.out q h1 hq]; exact Hfl.out q (by have := HPS.out.2; omega))
          clear hq0 hq1 hwZ
          go_wp2_with fail
          go_roundg (n - (i + 1))
          case measure => omega
          case rel => exact ⟨i + 1, by omega, Nat.le_refl _, rfl, hO5, HFF.out, hB5, hQ5, hU5⟩
      · obtain rfl : i = n := by omega
        rw [pos_end, ← HLn.out, ← HlL.out] at hO hfits
        rw [mixed_all HlL.out] at hO
        have HI := hid (In64.of_fit hfits)
        have HG := hid (Hgood.out hfits)
        clear hfits hlt
        go_wp2_with (first
          | ((with_reducible apply ldM_P); exact rfl; exact rfl; exact hB; exact rfl)
          | ((with_reducible apply stM_P); exact rfl; exact rfl; exact hQ; exact rfl; exact rfl; exact two2 _ _ _ _ _))
        rw [HG.out]
        exact bodyPost_ret (resMs (u := .int .i64 0) rfl rfl rfl (hQ.setRow _) rfl) rfl (RSymPost.ok hU (by omega) hQ hO HN64.out HI.out (by rw [HlL.out]; exact hlen))
theorem blk_ne {w : World} {b b' : Nat} {t t' : TypeId} {C C' : Array Value} (h : Blk w b t C) (h' : Blk w b' t' C') (hne : t ≠ t') : b ≠ b' := by
  rintro rfl
  unfold Blk at h h'
  rw [h] at h'
  injection h' with h'
  injection h' with _ ht
  exact hne ht
theorem OwnI.setRowB {w : World} {base g : Nat} {v : Value} {l : List Int} {C D : Array Value} (h : OwnI w base v l) (hg : Blk w g 46 C) : OwnI (w.setRow g D) base v l := by
  refine ⟨h.1, ?_⟩
  rcases h.2 with h2 | ⟨b, cap, cur, h1, h2, h3, h4⟩
  · exact .inl h2
  · exact .inr ⟨b, cap, cur, h1, h2, Blk.row_other (t := 2) h3 D (blk_ne (t := 2) h3 hg (by decide)), h4⟩
theorem run_ldME {ev : Operand → Value} {w : World} {g : Nat} {C : Array Value} {o : Oper} {x : Operand} (ho : o.op = .load 24 x) (hx : ev x = .pointer (some ⟨g, 0, none⟩)) (hC : Blk w g 24 C) (h2 : C.size = 2) : (execOp ev o).run Tryz.prog w = .ok (.value (.agg C)) w := by
  obtain ⟨fs, hu⟩ := undM
  unfold execOp
  simp only [ho, hx, Instr.loadAt, Instr.sureAddr, Sem.run_bind, Sem.run_pure, Result.andThen_ok, run_loadVar_row w g _ 24 C (0, 0) _ hC hu rfl (by rw [infoM, h2])]
set_option maxHeartbeats 16000000 in
theorem router_any {v hv : Value} {N : Int} {l h : List Int} (x : Int) {w : World} (hm : Sm w v N l) (hh : Vw w hv h) (hx : I64 x) (hI : In64 h) (hh3 : h.length ≤ 1000) :
    Calls Tryz.prog 51 #[v, .int .i64 x, hv] w (RSymPost w (ouN N l x h) (ouR N l x h) (ouC N l x h)) := by
  have HR := hid (fun w' (hu : Up w w') => rright_any (hm.up hu))
  have HCP := hid (fun w' (hu : Up w w') => copy_any (hm.up hu))
  obtain ⟨s, rfl, hV, hN, hl, hlen⟩ := hm
  obtain ⟨p, cap, rfl, hcap, hc⟩ := hV
  have HH := hid hh
  obtain ⟨q, cq, rfl, _⟩ := hh
  obtain ⟨W0, hW0⟩ : ∃ W0, (w.alloc (.cells #[.int .i64 N, .slice p l.length cap] 24)).alloc (.cells #[.int .i64 0, .slice none 0 0] 24) = W0 := ⟨_, rfl⟩
  have hB : Blk W0 w.heap.size 24 #[.int .i64 N, .slice p l.length cap] := by rw [← hW0]; exact (Blk.new _ _ rfl).old _
  have hQ : Blk W0 (w.heap.size + 1) 24 #[.int .i64 0, .slice none 0 0] := by rw [← hW0]; exact Blk.new _ _ (by simp)
  have hU : Up w W0 := by rw [← hW0]; exact (Up.alloc _ _).trans (Up.alloc _ _)
  cases hR : rt N l with
  | false =>
    have e : ouC N l x h = 23 := by unfold ouC; rw [hR]; rfl
    have e2 : ouR N l x h = [] := by unfold ouR; rw [e]; rfl
    have e3 : ouN N l x h = 0 := by unfold ouN; rw [e]; rfl
    rw [e, e2, e3]
    rw [hR] at HR
    clear e e2 e3 hR hc hl hN hI
    go_enter Tryz.func51, Tryz.ntmps51
    go_wp2_with (first
      | ((with_reducible apply ldM_P); exact rfl; exact rfl; exact hB; exact rfl)
      | (go_at_call 17; (with_reducible refine (HR.out _ hU).mono ?_); rintro r w1 ⟨rfl, hu1⟩; replace hQ := hQ.up hu1)
      | ((with_reducible apply stM_P); exact rfl; exact rfl; exact hQ; exact rfl; exact rfl; exact two2 _ _ _ _ _))
    exact bodyPost_ret (resMs (u := .int .i64 23) rfl rfl rfl (hQ.setRow _) rfl) rfl (RSymPost.err 23 (hU.trans hu1) (by omega))
  | true =>
    rw [hR] at HR
    by_cases hn0 : (h.length : Int) = N
    · obtain ⟨n, rfl⟩ : ∃ n : Nat, N = (n : Int) := ⟨h.length, hn0.symm⟩
      obtain ⟨_, n8, htri, _⟩ := rt_spec hR
      rw [tri_nat] at htri
      have n8' : n ≤ 8 := by omega
      have hln : l.length = triN n := by omega
      have hhn : h.length = n := by omega
      have d3 : ((h.length : Int) != (n : Int)) = false := by rw [hn0]; simp
      have eN : ((n : Int)).toNat = n := by omega
      have HLn := hid hln
      have HhL := hid hhn
      have HI64 := hid hI
      have Hl64 := hid hl
      have hx64 := hid hx
      have HO := hid (fun v (hv : I64 v) w => of_big v hv.1 hv.2 w)
      obtain ⟨L', hL'⟩ : ∃ L', ouL n l x h = L' := ⟨_, rfl⟩
      have HlL : Hid (L'.length = l.length) := hid (by rw [← hL', ouL_len])
      have Hat : Hid (∀ i j, i ≤ j → j < n → zth L' (pos n i j) = zth l (pos n i j) + x * zth h i * zth h j) := hid (fun i j hij hj => by rw [← hL']; exact ouL_at x h n8' hln hij hj)
      obtain ⟨hc9, hd9⟩ : (∀ k, k < L'.length → fit (zth L' k) = false → RSymPost w (ouN n l x h) (ouR n l x h) (ouC n l x h) = RSymPost w 0 [] 21) ∧
          ((∀ k, k < L'.length → fit (zth L' k) = true) → RSymPost w (ouN n l x h) (ouR n l x h) (ouC n l x h) = RSymPost w n L' 0) := by
        refine ⟨fun k hk hf => ?_, fun hf => ?_⟩
        · have e : ouC n l x h = 21 := by unfold ouC; rw [hR, decide_eq_true hn0, eN, hL', all_no hk hf]; rfl
          unfold ouN ouR; rw [e]; rfl
        · have e : ouC n l x h = 0 := by unfold ouC; rw [hR, decide_eq_true hn0, eN, hL', all_yes hf]; rfl
          unfold ouN ouR; rw [e, if_pos rfl, if_pos rfl, eN, hL']
      have Hbad := hid hc9
      have Hgood := hid hd9
      obtain ⟨PP, hPP⟩ : ∃ PP, RSymPost w (ouN n l x h) (ouR n l x h) (ouC n l x h) = PP := ⟨_, rfl⟩
      rw [hPP] at Hbad Hgood ⊢
      have HN64 := hid hN
      clear hPP hc9 hd9 hL' hc hl hI hx hR hn0 htri hln hhn hN eN hcap
      go_enter Tryz.func51, Tryz.ntmps51
      go_wp2_with (first
        | ((with_reducible apply ldM_P); exact rfl; exact rfl; exact hB; exact rfl)
        | (go_at_call 17; (with_reducible refine (HR.out _ hU).mono ?_); rintro r w1 ⟨rfl, hu1⟩; replace hQ := hQ.up hu1; replace hB := hB.up hu1; replace hU := hU.trans hu1; have hc0 := hB.cell 0 rfl)
        | (go_at_call 14; (with_reducible refine (HCP.out _ hU).mono ?_); rintro r w2 ⟨sA, rfl, hu2, hO⟩; have hlt := hB.lt; have hlt2 := hQ.lt; replace hQ := hQ.up hu2; replace hB := hB.up hu2; replace hU := hU.trans hu2; obtain ⟨pA, nA, cA, rfl⟩ := OwnI.slice hO; have hO2 := OwnI.setRow (D := #[.int .i64 (n : Int), .slice pA nA cA]) hO hB; have hB2 := hB.setRow #[.int .i64 (n : Int), .slice pA nA cA]; have hQ2 := Blk.row_other hQ #[.int .i64 (n : Int), .slice pA nA cA] (show w.heap.size + 1 ≠ w.heap.size by omega); have hU2 := below_setRow hU (Nat.le_refl _) #[.int .i64 (n : Int), .slice pA nA cA])
        | ((with_reducible apply stM_P); exact rfl; exact rfl; exact hB; exact rfl; exact rfl; exact two2 _ _ _ _ _))
      obtain ⟨base, hbase⟩ : ∃ b, w1.heap.size = b := ⟨_, rfl⟩
      have hbs : w.heap.size + 1 < base := by omega
      rw [hbase] at hO2
      clear hbase hlt hlt2 hu1 hu2 hO hB hQ hU hc0 hW0
      go_loopg [8] n (fun g ti wr => ∃ i : Nat, i ≤ n ∧ n - i ≤ g ∧ ti = .int .i64 (i : Nat) ∧ RInv w base w.heap.size (w.heap.size + 1) n (.slice pA nA cA) L' l (pos n i i) wr)
      case atStart => exact ⟨0, Nat.zero_le _, by omega, rfl, by rw [pos_zero, mixed_zero]; exact hO2, fun q hq => by rw [pos_zero] at hq; omega, hB2, hQ2, hU2⟩
      case round =>
        clear hB2 hQ2 hU2 hO2
        obtain ⟨i, hi, hig, rfl, hO, hfits, hB, hQ, hU⟩ := hrel
        have hc0 := hB.cell 0 rfl
        by_cases hlt : i < n
        · have e1 : IntKind.i64.wrap ((i : Int) + 1) = (i : Int) + 1 := IntWalk.i64_in _ (by omega)
          go_wp2_with fail
          go_loopg [9] n (fun g tj wj => ∃ j : Nat, i ≤ j ∧ j ≤ n ∧ n - j ≤ g ∧ tj = .int .i64 (j : Nat) ∧ RInv w base w.heap.size (w.heap.size + 1) n (.slice pA nA cA) L' l (pos n i j) wj)
          case atStart => exact ⟨i, Nat.le_refl _, hi, by omega, rfl, hO, hfits, hB, hQ, hU⟩
          case round =>
            clear hO hfits hB hQ hU hc0
            obtain ⟨j, hij, hj, hjg, rfl, hO, hfits, hB, hQ, hU⟩ := hrel
            have hc0 := hB.cell 0 rfl
            by_cases hjlt : j < n
            · have hkl : pos n i j < l.length := by rw [HLn.out]; exact pos_lt hij hjlt
              have hM64 := In64.mixed HlL.out Hl64.out hfits
              have HSm := hid (hO.sm HN64.out hM64 (by rw [mixed_len HlL.out]; exact hlen))
              have HAt := hid (fun w' (hu : Up wr w') => rat_ent2 (HSm.out.up hu) n8' (by rw [mixed_len HlL.out]; exact HLn.out) hij hjlt)
              have hat := Hat.out i j hij hjlt
              have HX := hid (fun w => (pos_idx hij hjlt) ▸ rat_any (n : Int) (i : Int) (j : Int) (by omega) (by omega) (by omega) (by omega) (by omega) w)
              have HFit := hid hfits
              obtain ⟨k, hk⟩ : ∃ k, pos n i j = k := ⟨_, rfl⟩
              have HK := hid hk
              rw [hk] at hkl HAt hat hO HX HFit
              obtain ⟨g, cp, C, hv, hbg, -⟩ := hO.open (by rw [mixed_len HlL.out]; omega)
              injection hv with x1 x2 x3
              rw [mixed_len HlL.out] at x2
              subst x1 x2 x3
              have hihl : i < h.length := by rw [HhL.out]; exact hlt
              have hjhl : j < h.length := by rw [HhL.out]; exact hjlt
              obtain ⟨q', cq', xq, _, hcq⟩ := HH.out
              injection xq with y1 y2 y3
              subst y1 y3
              obtain ⟨ad, rfl, _⟩ := hcq i hihl
              have HAd := hid (fun w' (hu : Up w w') (i : Nat) (hi : i < h.length) => (show w'.cell? (ad.add i) = some (.int .i64 (zth h i)) from by obtain ⟨a2, z1, z2⟩ := hcq i hi; injection z1 with z1; subst z1; exact hu.cellEq z2))
              have hmx : zth (mixed L' l k) k = zth l k := mixed_at HlL.out hkl
              rw [hmx] at HAt
              have hak := Hl64.out k hkl
              have hzi := HI64.out i hihl
              have hzj := HI64.out j hjhl
              have b0 := i64_bp hak
              have b1 := i64_bp hx64.out
              have b2 := i64_bp hzi
              have b3 := i64_bp hzj
              have b4 : (zth h i * zth h j).natAbs < bp 2 := by rw [Int.natAbs_mul, bp_add 1 1]; exact Nat.mul_lt_mul'' b2 b3
              have b5 : (x * (zth h i * zth h j)).natAbs < bp 3 := by rw [Int.natAbs_mul, bp_add 1 2]; exact Nat.mul_lt_mul'' b1 b4
              have hat' : zth L' k = zth l k + x * (zth h i * zth h j) := by rw [hat, Int.mul_assoc]
              have b6 : (zth L' k).natAbs < bp 4 := by
                rw [hat']
                have c1 : bp 4 = bp 3 * 18446744073709551616 := bp_succ 3
                have c2 : bp 1 ≤ bp 3 := bp_mono (by omega)
                omega
              have n0 := nl_bp (by omega) b0
              have n1 := nl_bp (by omega) b1
              have n2 := nl_bp (by omega) b2
              have n3 := nl_bp (by omega) b3
              have n4 := nl_bp (by omega) b4
              have n5 := nl_bp (by omega) b5
              have HN3 := hid (nl_bp (by omega) b6)
              have HOk := hid (HO.out (zth l k) hak)
              have HOx := hid (HO.out x hx64.out)
              have HOi := hid (HO.out (zth h i) hzi)
              have HOj := hid (HO.out (zth h j) hzj)
              have HM1 := hid (fun (va vb : Value) (w : World) (ha : Big w va (zth h i)) (hb : Big w vb (zth h j)) => mul_big ha hb n2 n3)
              have HM2 := hid (fun (va vb : Value) (w : World) (ha : Big w va x) (hb : Big w vb (zth h i * zth h j)) => mul_big ha hb n1 n4)
              have HAD := hid (fun (va vb : Value) (w : World) (ha : Big w va (zth l k)) (hb : Big w vb (x * (zth h i * zth h j))) => hat' ▸ add_big ha hb n0 n5)
              have HS9 := hid (mixed_set HlL.out hkl)
              have HML := hid (mixed_len HlL.out k)
              clear hat hat' n0 n1 n2 n3 n4 n5 b0 b1 b2 b3 b4 b5 b6 hak hzi hzj hk hM64 hfits hcq y2 hmx HSm
              obtain ⟨z9, hz9'⟩ : ∃ z, zth L' k = z := ⟨_, rfl⟩
              have HZ9 := hid hz9'
              rw [hz9'] at HS9 HN3 HAD
              clear hz9'
              obtain ⟨p2, hp2⟩ : ∃ z, x * (zth h i * zth h j) = z := ⟨_, rfl⟩
              rw [hp2] at HM2 HAD
              clear hp2
              obtain ⟨p1, hp1⟩ : ∃ z, zth h i * zth h j = z := ⟨_, rfl⟩
              rw [hp1] at HM1 HM2
              clear hp1
              obtain ⟨zi, hzi9⟩ : ∃ z, zth h i = z := ⟨_, rfl⟩
              obtain ⟨zj, hzj9⟩ : ∃ z, zth h j = z := ⟨_, rfl⟩
              have HZi := hid hzi9
              have HZj := hid hzj9
              rw [hzi9, hzj9] at HM1
              rw [hzi9] at HOi
              rw [hzj9] at HOj
              clear hzi9 hzj9
              generalize zth l k = ak at *
              obtain ⟨M, hM9⟩ : ∃ M, mixed L' l k = M := ⟨_, rfl⟩
              rw [hM9] at hO HS9 HML
              clear hM9
              have hkM : k < M.length := by rw [HML.out]; exact hkl
              have hVh := Vw.up hU HH.out
              go_wp2_with fail
              refine wp_region_sp (n := 75) 21 [37, 38, 39, 40, 41, 42, 43, 44, 45, 46, 47, 48, 49, 50, 51, 52, 53, 54, 55, 56, 10] [SP.is (.agg #[.int .i64 (n : Int), .slice (some ⟨g, 0, none⟩) l.length cA]), SP.is (.int .i64 (i : Nat)), SP.is (.int .i64 (j : Nat)), SP.is (.int .i64 ak), SP.of (fun v w1 => Big w1 v ak) (fun _ _ _ h hu => h.up hu), SP.is (.int .i64 x), SP.of (fun v w1 => Big w1 v x) (fun _ _ _ h hu => h.up hu), SP.is (.slice (some ad) h.length cq), SP.is (.int .i64 (i : Nat)), SP.is (.pointer (some (ad.add i))), SP.is (.int .i64 zi), SP.of (fun v w1 => Big w1 v zi) (fun _ _ _ h hu => h.up hu), SP.is (.slice (some ad) h.length cq), SP.is (.int .i64 (j : Nat)), SP.is (.pointer (some (ad.add j))), SP.is (.int .i64 zj), SP.of (fun v w1 => Big w1 v zj) (fun _ _ _ h hu => h.up hu), SP.of (fun v w1 => Big w1 v p1) (fun _ _ _ h hu => h.up hu), SP.of (fun v w1 => Big w1 v p2) (fun _ _ _ h hu => h.up hu), SP.of (fun v w1 => Big w1 v z9) (fun _ _ _ h hu => h.up hu), SP.of (fun v w1 => ∃ b, v = .pointer (some ⟨b, 0, none⟩) ∧ w.heap.size ≤ b ∧ Blk w1 b 46 #[.bool false, .slice none 0 0]) (fun _ _ _ h hu => h.imp fun _ k => ⟨k.1, k.2.1, k.2.2.up hu⟩), SP.any] (fun wq => Blk wq w.heap.size 24 #[.int .i64 (n : Int), .slice (some ⟨g, 0, none⟩) l.length cA] ∧ Up wr wq ∧ Below w.heap.size w wq) (by kernel_rfl) (by rfl) (by kernel_rfl) (by kernel_rfl) (fun _ _ h hu => ⟨(h.1).up hu, (h.2.1).trans hu, below_up (h.2.2) hu⟩) ⟨(by first | assumption | exact gBlk), (by first | exact Up.refl _ | assumption), gUp⟩ (fun ev w9 hS9 i o hne hi hev => ?_) (fun gR wE hq hSE huE => ?_)
              · have ⟨hS1, hS2, hSB⟩ := hS9
                have hcC := hev.const
                have hcF := hev.func
                have hcG := hev.global
                rcases i with _ | _ | _ | _ | _ | _ | _ | _ | _ | _ | _ | _ | _ | _ | _ | _ | _ | _ | _ | _ | _ | _ | i
                · obtain rfl := Option.some.inj (show some _ = some o from hi)
                  have e3 := hev.other 3 (by kernel_rfl)
                  simp [Act.eval] at e3
                  exact leavesR_value (run_ldME rfl e3 hS1 rfl) rfl
                · obtain rfl := Option.some.inj (show some _ = some o from hi)
                  have e8 := hev.other 8 (by kernel_rfl)
                  simp [Act.eval] at e8
                  exact leavesR_value (u := .int .i64 (i : Nat)) (by first | (go_simp; done) | (go_simp; exact rfl)) rfl
                · obtain rfl := Option.some.inj (show some _ = some o from hi)
                  have e9 := hev.other 9 (by kernel_rfl)
                  simp [Act.eval] at e9
                  exact leavesR_value (u := .int .i64 (j : Nat)) (by first | (go_simp; done) | (go_simp; exact rfl)) rfl
                · obtain rfl := Option.some.inj (show some _ = some o from hi)
                  have e37 : ev (.tmp 37) = (.agg #[.int .i64 (n : Int), .slice (some ⟨g, 0, none⟩) l.length cA]) := hev.dep 0 37 (by kernel_rfl)
                  have e38 : ev (.tmp 38) = (.int .i64 (i : Nat)) := hev.dep 1 38 (by kernel_rfl)
                  have e39 : ev (.tmp 39) = (.int .i64 (j : Nat)) := hev.dep 2 39 (by kernel_rfl)
                  refine leavesR_call ?_ ((HAt.out _ hS2).mono fun _ _ h => ⟨h.2, _, h.1, rfl⟩)
                  go_simp
                · obtain rfl := Option.some.inj (show some _ = some o from hi)
                  have e40 : ev (.tmp 40) = (.int .i64 ak) := hev.dep 3 40 (by kernel_rfl)
                  refine leavesR_call ?_ (HOk.out _)
                  go_simp
                · obtain rfl := Option.some.inj (show some _ = some o from hi)
                  have e1 := hev.other 1 (by kernel_rfl)
                  simp [Act.eval] at e1
                  exact leavesR_value (u := .int .i64 x) (by first | (go_simp; done) | (go_simp; exact rfl)) rfl
                · obtain rfl := Option.some.inj (show some _ = some o from hi)
                  have e42 : ev (.tmp 42) = (.int .i64 x) := hev.dep 5 42 (by kernel_rfl)
                  refine leavesR_call ?_ (HOx.out _)
                  go_simp
                · obtain rfl := Option.some.inj (show some _ = some o from hi)
                  have e2 := hev.other 2 (by kernel_rfl)
                  simp [Act.eval] at e2
                  exact leavesR_value (u := .slice (some ad) h.length cq) (by first | (go_simp; done) | (go_simp; exact rfl)) rfl
                · obtain rfl := Option.some.inj (show some _ = some o from hi)
                  have e8 := hev.other 8 (by kernel_rfl)
                  simp [Act.eval] at e8
                  exact leavesR_value (u := .int .i64 (i : Nat)) (by first | (go_simp; done) | (go_simp; exact rfl)) rfl
                · obtain rfl := Option.some.inj (show some _ = some o from hi)
                  have e44 : ev (.tmp 44) = (.slice (some ad) h.length cq) := hev.dep 7 44 (by kernel_rfl)
                  have e45 : ev (.tmp 45) = (.int .i64 (i : Nat)) := hev.dep 8 45 (by kernel_rfl)
                  exact leavesR_value (u := .pointer (some (ad.add i))) (by first | (go_simp; done) | (go_simp; exact rfl)) rfl
                · obtain rfl := Option.some.inj (show some _ = some o from hi)
                  have e46 : ev (.tmp 46) = (.pointer (some (ad.add i))) := hev.dep 9 46 (by kernel_rfl)
                  have hcx := HAd.out w9 hSB i hihl; rw [HZi.out] at hcx; exact leavesR_value (u := .int .i64 zi) (by go_simp) rfl
                · obtain rfl := Option.some.inj (show some _ = some o from hi)
                  have e47 : ev (.tmp 47) = (.int .i64 zi) := hev.dep 10 47 (by kernel_rfl)
                  refine leavesR_call ?_ (HOi.out _)
                  go_simp
                · obtain rfl := Option.some.inj (show some _ = some o from hi)
                  have e2 := hev.other 2 (by kernel_rfl)
                  simp [Act.eval] at e2
                  exact leavesR_value (u := .slice (some ad) h.length cq) (by first | (go_simp; done) | (go_simp; exact rfl)) rfl
                · obtain rfl := Option.some.inj (show some _ = some o from hi)
                  have e9 := hev.other 9 (by kernel_rfl)
                  simp [Act.eval] at e9
                  exact leavesR_value (u := .int .i64 (j : Nat)) (by first | (go_simp; done) | (go_simp; exact rfl)) rfl
                · obtain rfl := Option.some.inj (show some _ = some o from hi)
                  have e49 : ev (.tmp 49) = (.slice (some ad) h.length cq) := hev.dep 12 49 (by kernel_rfl)
                  have e50 : ev (.tmp 50) = (.int .i64 (j : Nat)) := hev.dep 13 50 (by kernel_rfl)
                  exact leavesR_value (u := .pointer (some (ad.add j))) (by first | (go_simp; done) | (go_simp; exact rfl)) rfl
                · obtain rfl := Option.some.inj (show some _ = some o from hi)
                  have e51 : ev (.tmp 51) = (.pointer (some (ad.add j))) := hev.dep 14 51 (by kernel_rfl)
                  have hcx := HAd.out w9 hSB j hjhl; rw [HZj.out] at hcx; exact leavesR_value (u := .int .i64 zj) (by go_simp) rfl
                · obtain rfl := Option.some.inj (show some _ = some o from hi)
                  have e52 : ev (.tmp 52) = (.int .i64 zj) := hev.dep 15 52 (by kernel_rfl)
                  refine leavesR_call ?_ (HOj.out _)
                  go_simp
                · obtain rfl := Option.some.inj (show some _ = some o from hi)
                  have e48 : (fun v w1 => Big w1 v zi) (ev (.tmp 48)) w9 := hev.dep 11 48 (by kernel_rfl)
                  dsimp only at e48
                  obtain ⟨v48, hv48⟩ : ∃ v, ev (.tmp 48) = v := ⟨_, rfl⟩
                  rw [hv48] at e48
                  have e53 : (fun v w1 => Big w1 v zj) (ev (.tmp 53)) w9 := hev.dep 16 53 (by kernel_rfl)
                  dsimp only at e53
                  obtain ⟨v53, hv53⟩ : ∃ v, ev (.tmp 53) = v := ⟨_, rfl⟩
                  rw [hv53] at e53
                  refine leavesR_call ?_ (HM1.out _ _ _ e48 e53)
                  go_simp
                · obtain rfl := Option.some.inj (show some _ = some o from hi)
                  have e43 : (fun v w1 => Big w1 v x) (ev (.tmp 43)) w9 := hev.dep 6 43 (by kernel_rfl)
                  dsimp only at e43
                  obtain ⟨v43, hv43⟩ : ∃ v, ev (.tmp 43) = v := ⟨_, rfl⟩
                  rw [hv43] at e43
                  have e54 : (fun v w1 => Big w1 v p1) (ev (.tmp 54)) w9 := hev.dep 17 54 (by kernel_rfl)
                  dsimp only at e54
                  obtain ⟨v54, hv54⟩ : ∃ v, ev (.tmp 54) = v := ⟨_, rfl⟩
                  rw [hv54] at e54
                  refine leavesR_call ?_ (HM2.out _ _ _ e43 e54)
                  go_simp
                · obtain rfl := Option.some.inj (show some _ = some o from hi)
                  have e41 : (fun v w1 => Big w1 v ak) (ev (.tmp 41)) w9 := hev.dep 4 41 (by kernel_rfl)
                  dsimp only at e41
                  obtain ⟨v41, hv41⟩ : ∃ v, ev (.tmp 41) = v := ⟨_, rfl⟩
                  rw [hv41] at e41
                  have e55 : (fun v w1 => Big w1 v p2) (ev (.tmp 55)) w9 := hev.dep 18 55 (by kernel_rfl)
                  dsimp only at e55
                  obtain ⟨v55, hv55⟩ : ∃ v, ev (.tmp 55) = v := ⟨_, rfl⟩
                  rw [hv55] at e55
                  refine leavesR_call ?_ (HAD.out _ _ _ e41 e55)
                  go_simp
                · obtain rfl := Option.some.inj (show some _ = some o from hi)
                  exact leavesR_up (u := .pointer (some ⟨w9.heap.size, 0, none⟩)) (w' := w9.alloc (.cells #[.bool false, .slice none 0 0] 46)) (by go_simp) (Up.alloc _ _) ⟨_, rfl, hSB.size, Blk.new _ _ rfl⟩
                · exact absurd rfl hne
                · exact absurd (show i + 22 < 22 from (Array.getElem?_eq_some_iff.1 hi).1) (by omega)
              have ⟨hS1, hS2, hSB⟩ := hSE
              have q0 : gR 37 = (.agg #[.int .i64 (n : Int), .slice (some ⟨g, 0, none⟩) l.length cA]) := hq 0 37 (by decide) (by kernel_rfl)
              have q1 : gR 38 = (.int .i64 (i : Nat)) := hq 1 38 (by decide) (by kernel_rfl)
              have q2 : gR 39 = (.int .i64 (j : Nat)) := hq 2 39 (by decide) (by kernel_rfl)
              have q3 : gR 40 = (.int .i64 ak) := hq 3 40 (by decide) (by kernel_rfl)
              have q4 : (fun v w1 => Big w1 v ak) (gR 41) wE := hq 4 41 (by decide) (by kernel_rfl)
              dsimp only at q4
              obtain ⟨v41, hv41⟩ : ∃ v, gR 41 = v := ⟨_, rfl⟩
              rw [hv41] at q4
              have q5 : gR 42 = (.int .i64 x) := hq 5 42 (by decide) (by kernel_rfl)
              have q6 : (fun v w1 => Big w1 v x) (gR 43) wE := hq 6 43 (by decide) (by kernel_rfl)
              dsimp only at q6
              obtain ⟨v43, hv43⟩ : ∃ v, gR 43 = v := ⟨_, rfl⟩
              rw [hv43] at q6
              have q7 : gR 44 = (.slice (some ad) h.length cq) := hq 7 44 (by decide) (by kernel_rfl)
              have q8 : gR 45 = (.int .i64 (i : Nat)) := hq 8 45 (by decide) (by kernel_rfl)
              have q9 : gR 46 = (.pointer (some (ad.add i))) := hq 9 46 (by decide) (by kernel_rfl)
              have q10 : gR 47 = (.int .i64 zi) := hq 10 47 (by decide) (by kernel_rfl)
              have q11 : (fun v w1 => Big w1 v zi) (gR 48) wE := hq 11 48 (by decide) (by kernel_rfl)
              dsimp only at q11
              obtain ⟨v48, hv48⟩ : ∃ v, gR 48 = v := ⟨_, rfl⟩
              rw [hv48] at q11
              have q12 : gR 49 = (.slice (some ad) h.length cq) := hq 12 49 (by decide) (by kernel_rfl)
              have q13 : gR 50 = (.int .i64 (j : Nat)) := hq 13 50 (by decide) (by kernel_rfl)
              have q14 : gR 51 = (.pointer (some (ad.add j))) := hq 14 51 (by decide) (by kernel_rfl)
              have q15 : gR 52 = (.int .i64 zj) := hq 15 52 (by decide) (by kernel_rfl)
              have q16 : (fun v w1 => Big w1 v zj) (gR 53) wE := hq 16 53 (by decide) (by kernel_rfl)
              dsimp only at q16
              obtain ⟨v53, hv53⟩ : ∃ v, gR 53 = v := ⟨_, rfl⟩
              rw [hv53] at q16
              have q17 : (fun v w1 => Big w1 v p1) (gR 54) wE := hq 17 54 (by decide) (by kernel_rfl)
              dsimp only at q17
              obtain ⟨v54, hv54⟩ : ∃ v, gR 54 = v := ⟨_, rfl⟩
              rw [hv54] at q17
              have q18 : (fun v w1 => Big w1 v p2) (gR 55) wE := hq 18 55 (by decide) (by kernel_rfl)
              dsimp only at q18
              obtain ⟨v55, hv55⟩ : ∃ v, gR 55 = v := ⟨_, rfl⟩
              rw [hv55] at q18
              have q19 : (fun v w1 => Big w1 v z9) (gR 56) wE := hq 19 56 (by decide) (by kernel_rfl)
              dsimp only at q19
              obtain ⟨v56, hv56⟩ : ∃ v, gR 56 = v := ⟨_, rfl⟩
              rw [hv56] at q19
              have q20 : (fun v w1 => ∃ b, v = .pointer (some ⟨b, 0, none⟩) ∧ w.heap.size ≤ b ∧ Blk w1 b 46 #[.bool false, .slice none 0 0]) (gR 10) wE := hq 20 10 (by decide) (by kernel_rfl)
              dsimp only at q20
              obtain ⟨v10, hv10⟩ : ∃ v, gR 10 = v := ⟨_, rfl⟩
              rw [hv10] at q20
              refine ⟨fun h => absurd h (by decide), fun o ho => ?_⟩
              obtain rfl := Option.some.inj (show some _ = some o from ho)
              simp only [putL, List.map_cons, List.map_nil, q0, q1, q2, q3, hv41, q5, hv43, q7, q8, q9, q10, hv48, q12, q13, q14, q15, hv53, hv54, hv55, hv56, hv10, Act.put, pu1, pu2, pu3]
              clear hq hSE q0 q1 q2 q3 q5 q7 q8 q9 q10 q12 q13 q14 q15
              obtain ⟨b7, rfl, hb7, hBz⟩ := q20
              obtain ⟨bb, ba, bn, bc, rfl⟩ := q19.shape
              refine wp_stB rfl rfl rfl rfl hBz rfl rfl (one2 _ _ _ _) ?_
              have hB7 := Blk.row_other (hB.up huE) #[.bool bb, .slice ba bn bc] (blk_ne (hB.up huE) hBz (by decide))
              have hQ7 := Blk.row_other (hQ.up huE) #[.bool bb, .slice ba bn bc] (blk_ne (hQ.up huE) hBz (by decide))
              have hO7 := OwnI.setRowB (D := #[.bool bb, .slice ba bn bc]) (hO.up huE) hBz
              have hU7 := below_setRow (hU.trans huE) hb7 #[.bool bb, .slice ba bn bc]
              have hBg := hBz.setRow #[.bool bb, .slice ba bn bc]
              have hbg6 := big_set (D := #[.bool bb, .slice ba bn bc]) hBz q19
              obtain ⟨wK, hwK⟩ : ∃ wK, wE.setRow b7 #[.bool bb, .slice ba bn bc] = wK := ⟨_, rfl⟩
              rw [hwK] at hB7 hQ7 hO7 hU7 hBg hbg6 ⊢
              clear hwK hBz q19 q17 q18 q16 q11 q6 q4 hS1 hS2 hSB huE hB hQ hO hU hc0 hVh
              cases hf : fit z9 with
              | false =>
                have HF9 := hid (fun (va : Value) (w : World) (hb : Big w va z9) => hf ▸ rfits_any hb HN3.out)
                have Hf := hid hf
                clear hf
                go_wp2_with (first
                  | ((with_reducible apply ldB_P); exact rfl; exact rfl; exact hBg; exact rfl)
                  | (go_at_call 77; (with_reducible refine (HF9.out _ _ hbg6).mono ?_); rintro r w7 ⟨rfl, hu7⟩; replace hQ7 := hQ7.up hu7)
                  | ((with_reducible apply stM_P); exact rfl; exact rfl; exact hQ7; exact rfl; exact rfl; exact two2 _ _ _ _ _))
                rw [Hbad.out k (by rw [HlL.out]; exact hkl) (by rw [HZ9.out]; exact Hf.out)]
                exact bodyPost_ret (resMs (u := .int .i64 21) rfl rfl rfl (hQ7.setRow _) rfl) rfl (RSymPost.err 21 (below_up hU7 hu7) (by omega))
              | true =>
                have HF9 := hid (fun (va : Value) (w : World) (hb : Big w va z9) => hf ▸ rfits_any hb HN3.out)
                have Hf := hid hf
                have HIn := hid (fun (va : Value) (w : World) (hb : Big w va z9) => (i64V_yes (fit_i64 hf)) ▸ int64_big hb HN3.out)
                clear hf
                go_wp2_with (first
                  | ((with_reducible apply ldB_P); exact rfl; exact rfl; exact hBg; exact rfl)
                  | (go_at_call 77; (with_reducible refine (HF9.out _ _ hbg6).mono ?_); rintro r w7 ⟨rfl, hu7⟩; replace hQ7 := hQ7.up hu7; replace hB7 := hB7.up hu7; replace hO7 := hO7.up hu7; replace hbg6 := hbg6.up hu7; replace hBg := hBg.up hu7; replace hU7 := below_up hU7 hu7))
                have hq0 := hB7.cell 0 rfl
                have hq1 := hB7.cell 1 rfl
                refine wp_region_upH (S := (fun wq => Blk wq w.heap.size 24 #[.int .i64 (n : Int), .slice (some ⟨g, 0, none⟩) l.length cA] ∧ wq.cell? ⟨w.heap.size, 0, none⟩ = some (.int .i64 (n : Int)) ∧ wq.cell? ⟨w.heap.size, 1, none⟩ = some (.slice (some ⟨g, 0, none⟩) l.length cA) ∧ Blk wq b7 46 #[.bool bb, .slice ba bn bc] ∧ Big wq (.agg #[.bool bb, .slice ba bn bc]) z9 ∧ OwnI wq base (.slice (some ⟨g, 0, none⟩) l.length cA) M ∧ Blk wq (w.heap.size + 1) 24 #[.int .i64 0, .slice none 0 0] ∧ Below w.heap.size w wq)) (req := (fun j => j != 13)) (by kernel_rfl) (fun _ _ h hu => ⟨(h.1).up hu, hu.cell (h.2.1), hu.cell (h.2.2.1), (h.2.2.2.1).up hu, (h.2.2.2.2.1).up hu, (h.2.2.2.2.2.1).up hu, (h.2.2.2.2.2.2.1).up hu, below_up (h.2.2.2.2.2.2.2) hu⟩) ⟨gBlk, (by first | assumption | (apply Blk.cell; exact gBlk; exact rfl)), (by first | assumption | (apply Blk.cell; exact gBlk; exact rfl)), gBlk, (by (repeat (first | assumption | ((with_reducible apply big_set); exact gBlk) | (with_reducible apply big_alloc) | ((with_reducible apply big_up); assumption))); done), (by assumption), gBlk, gUp⟩ (fun wS hSS hSu => ?_)
                have ⟨hS1, hS2, hS3, hS4, hS5, hS6, hS7, hSB⟩ := hSS
                refine wpAnyU_pure (i := 0) (d := (some 62)) (v := ?_) rfl rfl (by kernel_rfl) (fun _ _ _ h => h) hSu.out (Or.inl ⟨by rfl, fun w' _ => yu_value ?_⟩) ?_
                rotate_left
                · (go_simp; (try exact rfl))
                try simp only [Act.put, pu1, pu2, pu3]
                refine wpAnyU_take (i := 1) (d := (some 63)) (v := ?_) rfl rfl (by kernel_rfl) (fun _ _ _ h => h) hSu.out hSS (Or.inl ⟨by rfl, fun w' hSw => yu_value ?_⟩) ?_
                rotate_left
                · ((try dsimp only at hSw); (try obtain ⟨_, _, _, _, _, _, _, _⟩ := hSw); go_simp; (try exact rfl))
                try simp only [Act.put, pu1, pu2, pu3]
                refine wpAnyU_pure (i := 2) (d := (some 64)) (v := ?_) rfl rfl (by kernel_rfl) (fun _ _ _ h => h) hSu.out (Or.inl ⟨by rfl, fun w' _ => yu_value ?_⟩) ?_
                rotate_left
                · (go_simp; (try exact rfl))
                try simp only [Act.put, pu1, pu2, pu3]
                refine wpAnyU_take (i := 3) (d := (some 65)) (v := ?_) rfl rfl (by kernel_rfl) (fun _ _ _ h => h) hSu.out hSS (Or.inl ⟨by rfl, fun w' hSw => yu_value ?_⟩) ?_
                rotate_left
                · ((try dsimp only at hSw); (try obtain ⟨_, _, _, _, _, _, _, _⟩ := hSw); go_simp; (try exact rfl))
                try simp only [Act.put, pu1, pu2, pu3]
                refine wpAnyU_pure (i := 4) (d := (some 66)) (v := ?_) rfl rfl (by kernel_rfl) (fun _ _ _ h => h) hSu.out (Or.inl ⟨by rfl, fun w' _ => yu_value ?_⟩) ?_
                rotate_left
                · (go_simp; (try exact rfl))
                try simp only [Act.put, pu1, pu2, pu3]
                refine wpAnyU_pure (i := 5) (d := (some 67)) (v := ?_) rfl rfl (by kernel_rfl) (fun _ _ _ h => h) hSu.out (Or.inl ⟨by rfl, fun w' _ => yu_value ?_⟩) ?_
                rotate_left
                · (go_simp; (try exact rfl))
                try simp only [Act.put, pu1, pu2, pu3]
                refine wpAnyU_take (i := 6) (d := (some 68)) (v := _) rfl rfl (by kernel_rfl) (fun _ _ _ h => h) hSu.out hSS (Or.inl ⟨by rfl, fun w' hSw => yu_call ?_ ((HX.out _).mono fun _ _ h => ⟨h.1, by rw [h.2]; exact Up.refl _⟩)⟩) ?_
                · go_simp
                try simp only [Act.put, pu1, pu2, pu3]
                refine wpAnyU_take (i := 7) (d := (some 69)) (v := _) rfl rfl (by kernel_rfl) (fun _ _ _ h => h) hSu.out hSS (Or.inl ⟨by rfl, fun w' hSw => yu_value (run_ldB rfl rfl hSw.2.2.2.1 rfl)⟩) ?_
                try simp only [Act.put, pu1, pu2, pu3]
                refine wpAnyU_take (i := 8) (d := (some 70)) (v := _) rfl rfl (by kernel_rfl) (fun _ _ _ h => h) hSu.out hSS (Or.inl ⟨by rfl, fun w' hSw => yu_call ?_ (HIn.out _ _ hSw.2.2.2.2.1)⟩) ?_
                · go_simp
                try simp only [Act.put, pu1, pu2, pu3]
                refine wpAnyU_pure (i := 9) (d := (some 61)) (v := ?_) rfl rfl (by kernel_rfl) (fun _ _ _ h => h) hSu.out (Or.inl ⟨by rfl, fun w' _ => yu_value ?_⟩) ?_
                rotate_left
                · (go_simp; (try exact rfl))
                try simp only [Act.put, pu1, pu2, pu3]
                refine wpAnyU_pure (i := 10) (d := (some 71)) (v := ?_) rfl rfl (by kernel_rfl) (fun _ _ _ h => h) hSu.out (Or.inl ⟨by rfl, fun w' _ => yu_value ?_⟩) ?_
                rotate_left
                · (go_simp; (try exact rfl))
                try simp only [Act.put, pu1, pu2, pu3]
                refine wpAnyU_pure (i := 11) (d := (some 72)) (v := ?_) rfl rfl (by kernel_rfl) (fun _ _ _ h => h) hSu.out (Or.inl ⟨by rfl, fun w' _ => yu_value ?_⟩) ?_
                rotate_left
                · (go_simp; (try exact rfl))
                try simp only [Act.put, pu1, pu2, pu3]
                refine wpAnyU_pure (i := 12) (d := (some 73)) (v := ?_) rfl rfl (by kernel_rfl) (fun _ _ _ h => h) hSu.out (Or.inl ⟨by rfl, fun w' _ => yu_value ?_⟩) ?_
                rotate_left
                · (go_simp; (try exact rfl))
                try simp only [Act.put, pu1, pu2, pu3]
                refine wpAnyU_one (i := 13) rfl (by kernel_rfl) (by rfl) fun wZ hwZ => ?_
                obtain ⟨hcW, hfW⟩ := (hS6.up hwZ).cells hkM
                go_simp
                clear hcW hfW
                refine wpAnyU_done (by kernel_rfl) (fun wF huE => ?_) _
                have hne1 : w.heap.size ≠ g := by omega
                have hne2 : w.heap.size + 1 ≠ g := by omega
                have hO5 := ((hS6.up hwZ).set hkM z9).up huE
                rw [HS9.out] at hO5
                have hB5 := ((hS1.up hwZ).other ⟨g, k, none⟩ (.int .i64 z9) hne1).up huE
                have hQ5 := ((hS7.up hwZ).other ⟨g, k, none⟩ (.int .i64 z9) hne2).up huE
                have hU5 := below_up ((below_up hSB hwZ).setCell (p := ⟨g, k, none⟩) (show w.heap.size ≤ g by omega) (.int .i64 z9)) huE
                clear hq0 hq1 hwZ
                go_wp2_with fail
                go_roundg (n - (j + 1))
                case measure => omega
                case rel => exact ⟨j + 1, by omega, by omega, Nat.le_refl _, rfl, by rw [pos_succ hij, HK.out]; exact ⟨hO5, fun q hq => by rcases Nat.lt_succ_iff_lt_or_eq.1 hq with h1 | h1; exact HFit.out q h1; rw [h1, HZ9.out]; exact Hf.out, hB5, hQ5, hU5⟩⟩
            · obtain rfl : j = n := by omega
              have HP := hid (pos_row hlt)
              go_wp2_with fail
              go_roundg (j - (i + 1))
              case measure => omega
              case rel => exact ⟨i + 1, hlt, Nat.le_refl _, rfl, by rw [← HP.out]; exact ⟨hO, hfits, hB, hQ, hU⟩⟩
        · obtain rfl : i = n := by omega
          rw [pos_end, ← HLn.out, ← HlL.out] at hO hfits
          rw [mixed_all HlL.out] at hO
          have HI := hid (In64.of_fit hfits)
          have HG := hid (Hgood.out hfits)
          clear hfits hlt
          go_wp2_with (first
            | ((with_reducible apply ldM_P); exact rfl; exact rfl; exact hB; exact rfl)
            | ((with_reducible apply stM_P); exact rfl; exact rfl; exact hQ; exact rfl; exact rfl; exact two2 _ _ _ _ _))
          rw [HG.out]
          exact bodyPost_ret (resMs (u := .int .i64 0) rfl rfl rfl (hQ.setRow _) rfl) rfl (RSymPost.ok hU (by omega) hQ hO HN64.out HI.out (by rw [HlL.out]; exact hlen))
    · have e : ouC N l x h = 23 := by unfold ouC; rw [hR, decide_eq_false hn0]; rfl
      have e2 : ouR N l x h = [] := by unfold ouR; rw [e]; rfl
      have e3 : ouN N l x h = 0 := by unfold ouN; rw [e]; rfl
      rw [e, e2, e3]
      have d3 : ((h.length : Int) != N) = true := by simpa using hn0
      clear e e2 e3 hR hc hl hN hI hn0
      go_enter Tryz.func51, Tryz.ntmps51
      go_wp2_with (first
        | ((with_reducible apply ldM_P); exact rfl; exact rfl; exact hB; exact rfl)
        | (go_at_call 17; (with_reducible refine (HR.out _ hU).mono ?_); rintro r w1 ⟨rfl, hu1⟩; replace hQ := hQ.up hu1; replace hB := hB.up hu1; have hc0 := hB.cell 0 rfl)
        | ((with_reducible apply stM_P); exact rfl; exact rfl; exact hQ; exact rfl; exact rfl; exact two2 _ _ _ _ _))
      exact bodyPost_ret (resMs (u := .int .i64 23) rfl rfl rfl (hQ.setRow _) rfl) rfl (RSymPost.err 23 (hU.trans hu1) (by omega))
theorem Vw.two (w : World) (a b : Int) : Vw (w.alloc (.cells #[.int .i64 a, .int .i64 b] 2)) (.slice (some ⟨w.heap.size, 0, none⟩) 2 2) [a, b] := by
  refine ⟨_, 2, rfl, ⟨Nat.le_refl _, fun e => by cases e⟩, fun i hi => ⟨_, rfl, ?_⟩⟩
  rcases i with _ | _ | i
  · simp [zth, Addr.add]
  · simp [zth, Addr.add]
  · simp at hi; omega
theorem Errs.zero {w : World} {u : Value} (h : Errs w u 0) : u = .nilIface := by
  rcases h with ⟨_, h⟩ | ⟨h, _⟩
  · exact h
  · exact absurd rfl h
def Vh (w : World) (v : Value) (l : List Int) : Prop :=
  ∃ p cap, v = .slice p l.length cap ∧ ∀ i, i < l.length → ∃ a, p = some a ∧ w.cell? (a.add i) = some (.int .i16 (zth l i))
def In16 (l : List Int) : Prop := ∀ i, i < l.length → -32768 ≤ zth l i ∧ zth l i < 32768
theorem all_zeros (n : Int) : (zeros n).all fit = true := all_yes fun k _ => by rw [zth_zeros]; decide
theorem rt_zeros {n : Int} (h0 : 0 ≤ n) (h8 : n ≤ 8) : rt n (zeros n) = true := by rw [rt_yes ⟨h0, h8, len_zeros h0 h8⟩]; exact all_zeros n
theorem rt_zero : rt 0 [] = true := by decide
theorem rt_of {N : Int} {l l' : List Int} (h : rt N l = true) (hl : l'.length = l.length) (hf : l'.all fit = true) : rt N l' = true := by
  obtain ⟨h1, h2, h3, _⟩ := rt_spec h
  rw [rt_yes ⟨h1, h2, by rw [hl]; exact h3⟩]
  exact hf
theorem di_rt (N : Int) (l : List Int) (x : Int) : rt (diN N l x) (diR N l x) = true := by
  unfold diN diR
  by_cases h : diC N l x = 0
  · rw [if_pos h, if_pos h]
    unfold diC at h
    cases hr : rt N l with
    | false => rw [hr] at h; simp at h
    | true =>
      rw [hr] at h
      cases hf : (diL N.toNat l x).all fit with
      | false => rw [hf] at h; simp at h
      | true => exact rt_of hr (diL_len _ _ _) hf
  · rw [if_neg h, if_neg h]; exact rt_zero
theorem ou_rt (N : Int) (l : List Int) (x : Int) (h : List Int) : rt (ouN N l x h) (ouR N l x h) = true := by
  unfold ouN ouR
  by_cases h0 : ouC N l x h = 0
  · rw [if_pos h0, if_pos h0]
    unfold ouC at h0
    cases hr : rt N l with
    | false => rw [hr] at h0; simp at h0
    | true =>
      rw [hr, Bool.true_and] at h0
      split at h0
      · cases hf : (ouL N.toNat l x h).all fit with
        | false => rw [hf] at h0; simp at h0
        | true => exact rt_of hr (ouL_len _ _ _ _) hf
      · simp at h0
  · rw [if_neg h0, if_neg h0]; exact rt_zero
theorem vw_one (w : World) (a : Int) : Vw (w.alloc (.cells #[.int .i64 a] 2)) (.slice (some ⟨w.heap.size, 0, none⟩) 1 1) [a] := by
  refine ⟨_, 1, rfl, ⟨Nat.le_refl _, fun e => by cases e⟩, fun i hi => ⟨_, rfl, ?_⟩⟩
  rcases i with _ | i
  · simp [zth, Addr.add]
  · simp at hi
theorem In64.snoc {l : List Int} (h : In64 l) {z : Int} (hz : I64 z) : In64 (l ++ [z]) := by
  intro i hi
  rcases Nat.lt_or_ge i l.length with h1 | h1
  · have e : zth (l ++ [z]) i = zth l i := by rw [zth_get hi, List.getElem_append_left h1, ← zth_get h1]
    rw [e]; exact h i h1
  · have e : zth (l ++ [z]) i = z := by
      rw [zth_get hi, List.getElem_append_right h1]
      simp
    rw [e]; exact hz
def SeatPost (w : World) (r : Ending) (w' : World) : Prop := ∃ z N L, r = .returned z ∧ Up w w' ∧ SmO w' z N L ∧ rt N L = true
def MInv (b : Nat) (w : World) : Prop := ∃ N s L, Blk w b 24 #[.int .i64 N, s] ∧ SmO w (.agg #[.int .i64 N, s]) N L ∧ rt N L = true
set_option maxHeartbeats 8000000 in
theorem seat_any {v : Value} {hs : List Int} (n d : Nat) {w : World} (_ : n < 256) (_ : d < 65536) (hv : Vh w v hs) (h16 : In16 hs) (h60 : hs.length ≤ 60) :
    Calls Tryz.prog 13 #[.int .u8 (n : Nat), .int .u16 (d : Nat), v] w (SeatPost w) := by
  obtain ⟨k, hk⟩ : ∃ r, n % 7 = r := ⟨_, rfl⟩
  obtain ⟨dd, hdd⟩ : ∃ r, d % 5000 = r := ⟨_, rfl⟩
  have rk : (n : Int).tmod 7 = (k : Nat) := by rw [show (7 : Int) = ((7 : Nat) : Int) from rfl, ← Int.ofNat_tmod, hk]
  have rd : (d : Int).tmod 5000 = (dd : Nat) := by rw [show (5000 : Int) = ((5000 : Nat) : Int) from rfl, ← Int.ofNat_tmod, hdd]
  have lk : k < 7 := by omega
  have ld : dd < 5000 := by omega
  have ek : IntKind.i64.wrap (k : Int) = (k : Nat) := IntWalk.i64_in _ (by omega)
  have ed : IntKind.i64.wrap (dd : Int) = (dd : Nat) := IntWalk.i64_in _ (by omega)
  have Hhv := hid hv
  have H16 := hid h16
  obtain ⟨p, cap, rfl, hc⟩ := hv
  have HC := hid (fun w' (hu : Up w w') (i : Nat) (hi : i < hs.length) => (show ∃ a, p = some a ∧ w'.cell? (a.add i) = some (.int .i16 (zth hs i)) from by obtain ⟨a, h1, h2⟩ := hc i hi; exact ⟨a, h1, hu.cellEq h2⟩))
  clear hk hdd hc h16
  obtain ⟨W0, hW0⟩ : ∃ W0, w.alloc (.cells #[.int .i64 0, .slice none 0 0] 24) = W0 := ⟨_, rfl⟩
  have hQ : Blk W0 w.heap.size 24 #[.int .i64 0, .slice none 0 0] := by rw [← hW0]; exact Blk.new _ _ rfl
  have hU : Up w W0 := by rw [← hW0]; exact Up.alloc _ _
  go_enter Tryz.func13, Tryz.ntmps13
  go_wp2_with (first
    | (go_at_call 29; (with_reducible refine (rnew_any (k : Int) _).mono ?_); rintro r w1 ⟨z1, rfl, hu1, hs1⟩)
    | (go_at_call 50; (with_reducible refine (rdiag_any (dd : Int) hs1 (by unfold I64; omega)).mono ?_); rintro r w2 ⟨z2, rfl, hu2, hs2⟩; have hrt2 := di_rt (nw k) (zeros (nw k)) dd; obtain ⟨s2, base2, rfl, hO2, hr2⟩ := hs2; obtain ⟨p2, n2, c2, rfl⟩ := OwnI.slice hO2)
    | ((with_reducible apply stM_P); exact rfl; exact rfl; exact Blk.new _ _ rfl; exact rfl; exact rfl; exact two2 _ _ _ _ _))
  obtain ⟨N2, hN2⟩ : ∃ N2, diN (nw k) (zeros (nw k)) dd = N2 := ⟨_, rfl⟩
  obtain ⟨L2, hL2⟩ : ∃ L2, diR (nw k) (zeros (nw k)) dd = L2 := ⟨_, rfl⟩
  obtain ⟨C2, hC2⟩ : ∃ C2, diC (nw k) (zeros (nw k)) dd = C2 := ⟨_, rfl⟩
  rw [hN2, hL2] at hrt2
  rw [hL2] at hO2
  rw [hN2, hL2] at hr2
  rw [hN2, hC2]
  clear hN2 hL2 hC2 hs1
  have hbn := Blk.new (w := w2) (b := w2.heap.size) 24 #[.int .i64 0, .slice none 0 0] rfl
  have hsm2 : SmO (w2.alloc (.cells #[.int .i64 0, .slice none 0 0] 24)) (.agg #[.int .i64 N2, .slice p2 n2 c2]) N2 L2 := ⟨_, base2, rfl, OwnI.up (Up.alloc _ _) hO2, hr2⟩
  have hux := hu1.trans hu2
  obtain ⟨b8, hb8⟩ : ∃ b, w2.heap.size = b := ⟨_, rfl⟩
  have hb8l : w.heap.size < b8 := by rw [← hb8]; exact Nat.lt_of_lt_of_le hQ.lt hux.size
  rw [hb8] at hbn
  refine wp_folded (fun wd => MInv b8 wd ∧ Blk wd w.heap.size 24 #[.int .i64 0, .slice none 0 0] ∧ Up w wd) ⟨⟨N2, _, L2, by rw [hb8]; exact hbn.setRow _, by rw [hb8]; exact hsm2.setRow hbn, hrt2⟩, by rw [hb8]; exact Blk.row_other ((hQ.up hux).old _) _ (by omega), by rw [hb8]; exact below_setRow ((hU.trans hux).trans (Up.alloc _ _)) (by omega) _⟩ (fun w3 hD => ?_)
  obtain ⟨hM, hQ3, hU3⟩ := hD
  rw [hb8]
  clear hbn hsm2 hux hb8 hO2 hr2 hrt2 hu1 hu2 hQ hU hW0 rk rd ed ld
  go_loopg [10] hs.length (fun g ti wr => ∃ i : Nat, i ≤ 60 ∧ hs.length - i ≤ g ∧ ti = .int .i64 (i : Nat) ∧ MInv b8 wr ∧ Blk wr w.heap.size 24 #[.int .i64 0, .slice none 0 0] ∧ Up w wr)
  case atStart => exact ⟨0, by omega, by omega, rfl, hM, hQ3, hU3⟩
  case round =>
    clear hM hQ3 hU3
    obtain ⟨i, hi, hig, rfl, ⟨N, s, L, hB, hS, hrt⟩, hQ, hU⟩ := hrel
    by_cases hbody : i + k ≤ hs.length ∧ 0 < k ∧ i < 4 * k
    · obtain ⟨g1, g2, g3⟩ := hbody
      have d1 : decide ((i : Int) + (k : Int) ≤ (hs.length : Int)) = true := decide_eq_true (by omega)
      have d2 : decide ((0 : Int) < (k : Int)) = true := decide_eq_true (by omega)
      have d3 : decide ((i : Int) < 4 * (k : Int)) = true := decide_eq_true (by omega)
      go_wp2_with fail
      obtain ⟨wS, rfl⟩ : ∃ x, x = wr := ⟨_, rfl⟩
      go_loopg [11, 12] k (fun g th tj wj => ∃ (j : Nat) (H : List Int), j ≤ k ∧ k - j ≤ g ∧ tj = .int .i64 (j : Nat) ∧ OwnI wj wS.heap.size th H ∧ H.length = j ∧ In64 H ∧ Up wS wj)
      case atStart => exact ⟨0, [], by omega, by omega, rfl, OwnI.nil _ _, rfl, fun i hi => absurd hi (Nat.not_lt_zero _), Up.refl _⟩
      case round =>
        obtain ⟨j, H, hj, hjg, rfl, hO, hH, hH64, hu⟩ := hrel
        have hsz := hu.size
        have HH := hid hH
        have HH64 := hid hH64
        clear hH hH64
        by_cases hlt : j < k
        · have hij : i + j < hs.length := by omega
          obtain ⟨a1, rfl, hc1⟩ := HC.out _ (hU.trans hu) (i + j) hij
          obtain ⟨q, hq⟩ : ∃ q, (zth hs (i + j)).tmod 200 = q := ⟨_, rfl⟩
          have hz := H16.out (i + j) hij
          have hq1 : -200 < q ∧ q < 200 := by rw [← hq]; have := Int.tmod_lt_of_pos (zth hs (i + j)) (show (0 : Int) < 200 by decide); have := Int.lt_tmod_of_pos (zth hs (i + j)) (show (0 : Int) < 200 by decide); omega
          have eq1 : IntKind.i64.wrap q = q := IntWalk.i64_in _ (by omega)
          have hT : ((i : Int) + (j : Int)).toNat = i + j := by omega
          have hT0 : (0 : Int) ≤ (i : Int) + (j : Int) := by omega
          have HQ1 := hid hq1
          generalize zth hs (i + j) = zz at *
          clear hq1
          go_wp2_with (first
            | ((with_reducible apply appV); exact rfl; exact rfl; exact OwnI.up (Up.alloc _ _) hO; exact vw_one _ _; (focus (simp; omega)); (focus (rw [HH.out]; omega)); (focus (simp; done)); rintro v' w' h1 h2; have hu9 : Up wS w' := Below.trans (hu.trans (Up.alloc _ _)) h2))
          go_roundg (k - (j + 1))
          case measure => omega
          case rel => exact ⟨j + 1, H ++ [q], by omega, Nat.le_refl _, rfl, h1, by rw [List.length_append, HH.out]; rfl, In64.snoc HH64.out (by have := HQ1.out; unfold I64; omega), hu9⟩
        · obtain rfl : j = k := by omega
          obtain ⟨r3, hr3⟩ : ∃ r, i % 3 = r := ⟨_, rfl⟩
          have er3 : (i : Int).tmod 3 = (r3 : Nat) := by rw [show (3 : Int) = ((3 : Nat) : Int) from rfl, ← Int.ofNat_tmod, hr3]
          have lr3 : r3 < 3 := by omega
          obtain ⟨x3, hx3⟩ : ∃ x : Int, 1 + (r3 : Int) = x := ⟨_, rfl⟩
          have HX3 : Hid (I64 x3) := hid (by unfold I64; omega)
          obtain ⟨ps, ns, cs, rfl⟩ : ∃ p n c, s = .slice p n c := by
            obtain ⟨s', base', e1, e2, _⟩ := hS
            obtain ⟨p', n', c', rfl⟩ := OwnI.slice e2
            injection e1 with e1
            simp at e1
            exact ⟨_, _, _, e1⟩
          have hB9 := hB.up hu
          have hS9 := hS.up hu
          have hQ9 := hQ.up hu
          have hU9 := hU.trans hu
          have HOU := hid (router_any x3 hS9.sm hO.vw HX3.out HH64.out (by rw [HH.out]; omega))
          have HRT := hid (ou_rt N L x3 H)
          clear hr3 hO hB hS hQ hU hu
          obtain ⟨CX, hCX⟩ : ∃ x, ouC N L x3 H = x := ⟨_, rfl⟩
          rw [hCX] at HOU
          obtain ⟨NX, hNX⟩ : ∃ x, ouN N L x3 H = x := ⟨_, rfl⟩
          obtain ⟨LX, hLX⟩ : ∃ x, ouR N L x3 H = x := ⟨_, rfl⟩
          rw [hNX, hLX] at HOU HRT
          clear hCX hNX hLX
          by_cases hcx : CX = 0
          · subst hcx
            go_wp2_with (first
              | ((with_reducible apply ldM_P); exact rfl; exact rfl; (first | exact hb13 | exact hB9); exact rfl)
              | (go_at_call 51; (with_reducible refine (HOU.out).mono ?_); rintro r w5 ⟨z5, rfl, hu5, hs5⟩; have hs5' := hs5; obtain ⟨s5, base5, rfl, hO5, hr5⟩ := hs5'; obtain ⟨p5, n5, c5, rfl⟩ := OwnI.slice hO5; have hbn5 := Blk.new (w := w5) (b := w5.heap.size) 24 #[.int .i64 0, .slice none 0 0] rfl; have hb13 := hbn5.setRow #[.int .i64 NX, .slice p5 n5 c5]; have hB5 := Blk.row_other ((hB9.up hu5).old (.cells #[.int .i64 0, .slice none 0 0] 24)) #[.int .i64 NX, .slice p5 n5 c5] (Nat.ne_of_lt (hB9.up hu5).lt); have hQ5 := Blk.row_other ((hQ9.up hu5).old (.cells #[.int .i64 0, .slice none 0 0] 24)) #[.int .i64 NX, .slice p5 n5 c5] (Nat.ne_of_lt (hQ9.up hu5).lt); have hsm5 := SmO.setRow (D := #[.int .i64 NX, .slice p5 n5 c5]) (SmO.up (Up.alloc w5 (.cells #[.int .i64 0, .slice none 0 0] 24)) hs5) hbn5; have hU5 := below_setRow (((hU9.trans hu5).trans (Up.alloc w5 (.cells #[.int .i64 0, .slice none 0 0] 24)))) (hU9.trans hu5).size #[.int .i64 NX, .slice p5 n5 c5])
              | ((with_reducible apply stM_P); exact rfl; exact rfl; (first | exact hbn5 | exact hB5); exact rfl; exact rfl; exact two2 _ _ _ _ _))
            go_roundg (hs.length - (i + j))
            case measure => omega
            case rel => exact ⟨i + j, by omega, Nat.le_refl _, rfl, ⟨NX, _, LX, hB5.setRow _, hsm5.setRow hB5, HRT.out⟩, Blk.row_other hQ5 _ (by omega), below_setRow hU5 (by omega) _⟩
          · have hcx' : (CX == 0) = false := by simpa using hcx
            go_wp2_with (first
              | ((with_reducible apply ldM_P); exact rfl; exact rfl; exact hB9; exact rfl)
              | (go_at_call 51; (with_reducible refine (HOU.out).mono ?_); rintro r w5 ⟨z5, rfl, hu5, hs5⟩; have hs5' := hs5; obtain ⟨s5, base5, rfl, hO5, hr5⟩ := hs5'; obtain ⟨p5, n5, c5, rfl⟩ := OwnI.slice hO5; have hbn5 := Blk.new (w := w5) (b := w5.heap.size) 24 #[.int .i64 0, .slice none 0 0] rfl; have hB5 := Blk.row_other ((hB9.up hu5).old (.cells #[.int .i64 0, .slice none 0 0] 24)) #[.int .i64 NX, .slice p5 n5 c5] (Nat.ne_of_lt (hB9.up hu5).lt); have hQ5 := Blk.row_other ((hQ9.up hu5).old (.cells #[.int .i64 0, .slice none 0 0] 24)) #[.int .i64 NX, .slice p5 n5 c5] (Nat.ne_of_lt (hQ9.up hu5).lt); have hsm5 := SmO.setRow (D := #[.int .i64 NX, .slice p5 n5 c5]) (SmO.up ((hu5.trans (Up.alloc w5 (.cells #[.int .i64 0, .slice none 0 0] 24)))) hS9) hbn5; have hU5 := below_setRow (((hU9.trans hu5).trans (Up.alloc w5 (.cells #[.int .i64 0, .slice none 0 0] 24)))) (hU9.trans hu5).size #[.int .i64 NX, .slice p5 n5 c5])
              | ((with_reducible apply stM_P); exact rfl; exact rfl; exact hbn5; exact rfl; exact rfl; exact two2 _ _ _ _ _))
            go_roundg (hs.length - (i + j))
            case measure => omega
            case rel => exact ⟨i + j, by omega, Nat.le_refl _, rfl, ⟨N, _, L, hB5, hsm5, hrt⟩, hQ5, hU5⟩
    · obtain ⟨s', base', e1, e2, e3⟩ := hS
      have e1' := e1
      obtain ⟨ps, ns, cs, rfl⟩ := OwnI.slice e2
      injection e1 with e1
      obtain rfl : s = .slice ps ns cs := by simpa using e1
      have hFO : SmO (wr.setRow w.heap.size #[.int .i64 N, .slice ps ns cs]) (.agg #[.int .i64 N, .slice ps ns cs]) N L := SmO.setRow ⟨_, base', rfl, e2, e3⟩ hQ
      have HFO := hid hFO
      clear e1 e2 e3 e1' hFO
      by_cases c1 : i + k ≤ hs.length
      · by_cases c2 : 0 < k
        · have c3 : ¬ i < 4 * k := fun h => hbody ⟨c1, c2, h⟩
          have d3 : decide ((i : Int) < 4 * (k : Int)) = false := decide_eq_false (by omega)
          clear hbody
          go_wp2_with (first
            | ((with_reducible apply ldM_P); exact rfl; exact rfl; exact hB; exact rfl)
            | ((with_reducible apply stM_P); exact rfl; exact rfl; exact hQ; exact rfl; exact rfl; exact two2 _ _ _ _ _))
          exact bodyPost_ret (resM rfl rfl (hQ.setRow _) rfl) rfl ⟨_, N, L, rfl, below_setRow hU (Nat.le_refl _) _, HFO.out, hrt⟩
        · clear hbody
          go_wp2_with (first
            | ((with_reducible apply ldM_P); exact rfl; exact rfl; exact hB; exact rfl)
            | ((with_reducible apply stM_P); exact rfl; exact rfl; exact hQ; exact rfl; exact rfl; exact two2 _ _ _ _ _))
          exact bodyPost_ret (resM rfl rfl (hQ.setRow _) rfl) rfl ⟨_, N, L, rfl, below_setRow hU (Nat.le_refl _) _, HFO.out, hrt⟩
      · clear hbody
        go_wp2_with (first
          | ((with_reducible apply ldM_P); exact rfl; exact rfl; exact hB; exact rfl)
          | ((with_reducible apply stM_P); exact rfl; exact rfl; exact hQ; exact rfl; exact rfl; exact two2 _ _ _ _ _))
        exact bodyPost_ret (resM rfl rfl (hQ.setRow _) rfl) rfl ⟨_, N, L, rfl, below_setRow hU (Nat.le_refl _) _, HFO.out, hrt⟩
theorem zth_ext {l m : List Int} (h : l.length = m.length) (h2 : ∀ i, i < l.length → zth l i = zth m i) : l = m := by
  refine List.ext_getElem h fun i h1 h3 => ?_
  have := h2 i h1
  rwa [zth_get h1, zth_get h3] at this
def vecV (l : List Int) (sm : Bool) (i : Nat) : Int := let v := if i < l.length then zth l i else (i : Int); if sm then v.tmod 1000000 else v
def vecL (l : List Int) (sm : Bool) : Nat → List Int
  | 0 => []
  | i + 1 => vecL l sm i ++ [vecV l sm i]
theorem vecL_len (l : List Int) (sm : Bool) : ∀ n, (vecL l sm n).length = n := by
  intro n
  induction n with
  | zero => rfl
  | succ n ih => show (vecL l sm n ++ [vecV l sm n]).length = _; rw [List.length_append, ih]; rfl
theorem tmod_bound (v : Int) {m : Int} (hm : 0 < m) : -m < v.tmod m ∧ v.tmod m < m := by
  have h1 := Int.tmod_lt_of_pos v hm
  have h2 := Int.neg_tmod v m
  have h3 := Int.tmod_lt_of_pos (-v) hm
  omega
theorem vecV_in {l : List Int} (h : In64 l) (sm : Bool) {i : Nat} (hi : i < 1000000) : I64 (vecV l sm i) := by
  have h0 : I64 (if i < l.length then zth l i else (i : Int)) := by
    split
    · rename_i h1; exact h i h1
    · unfold I64; omega
  unfold vecV
  cases sm with
  | true =>
    have := tmod_bound (if i < l.length then zth l i else (i : Int)) (m := 1000000) (by decide)
    simp only [if_true]
    unfold I64; omega
  | false => simpa using h0
theorem vecL_in {l : List Int} (h : In64 l) (sm : Bool) : ∀ n, n ≤ 1000000 → In64 (vecL l sm n) := by
  intro n
  induction n with
  | zero => intro _ i hi; exact absurd hi (Nat.not_lt_zero _)
  | succ n ih => intro hn; exact (ih (by omega)).snoc (vecV_in h sm (by omega))
set_option maxHeartbeats 8000000 in
theorem vec_any {s : Value} {p : Option Addr} {nn cc : Nat} {vl : Value} {l : List Int} (n : Nat) (sm : Bool) {w : World} (hs : s = .slice p nn cc) (hn : n ≤ 8) (hl : Vw w vl l) (hI : In64 l) (_ : l.length ≤ 60) :
    Calls Tryz.prog 31 #[.agg #[.int .i64 (n : Nat), s], vl, .bool sm] w fun r w' => ∃ z b, r = .returned z ∧ Up w w' ∧ w.heap.size ≤ b ∧ OwnI w' b z (vecL l sm n) := by
  subst hs
  have HV := hid hl
  obtain ⟨q, cq, rfl, -, hcq⟩ := hl
  have HB := hid (Blk.new (w := w) (b := w.heap.size) 24 #[.int .i64 (n : Nat), .slice p nn cc] rfl)
  have HC := hid (fun w' (hu : Up w w') i (hi : i < l.length) => show ∃ ad, q = some ad ∧ w'.cell? (ad.add i) = some (.int .i64 (zth l i)) from by obtain ⟨a, h1, h2⟩ := hcq i hi; exact ⟨a, h1, hu.cellEq h2⟩)
  have HX := hid (Up.alloc w (.cells #[.int .i64 (n : Nat), .slice p nn cc] 24))
  clear hcq
  go_enter Tryz.func31, Tryz.ntmps31
  go_wp2_with fail
  obtain ⟨wS, hwS⟩ : ∃ x, w.alloc (.cells #[.int .i64 (n : Nat), .slice p nn cc] 24) = x := ⟨_, rfl⟩
  rw [hwS] at HB HX ⊢
  clear hwS
  go_loopg [7, 8] n (fun g tz ti wr => ∃ i : Nat, i ≤ n ∧ n - i ≤ g ∧ ti = .int .i64 (i : Nat) ∧ OwnI wr wS.heap.size tz (vecL l sm i) ∧ Up wS wr)
  case atStart => exact ⟨0, Nat.zero_le _, by omega, rfl, OwnI.nil _ _, Up.refl _⟩
  case round =>
    obtain ⟨i, hi, hig, rfl, hO, hu⟩ := hrel
    have hBr := HB.out.up hu
    have hBr0 := hBr.cell 0 rfl
    have hsz := hu.size
    by_cases hlt : i < n
    · have eV : vecL l sm (i + 1) = vecL l sm i ++ [vecV l sm i] := rfl
      have HE := hid eV
      have HL : Hid ((vecL l sm i).length ≤ 8) := hid (by rw [vecL_len]; omega)
      have HI9 := hid (vecV_in hI sm (i := i) (by omega))
      clear eV
      by_cases hil : i < l.length
      · obtain ⟨ad, rfl, hcx⟩ := HC.out _ (HX.out.trans hu) i hil
        have dil : decide ((i : Int) < (l.length : Int)) = true := decide_eq_true (by omega)
        have hv : vecV l sm i = if sm then (zth l i).tmod 1000000 else zth l i := by unfold vecV; rw [if_pos hil]
        generalize zth l i = z at *
        cases sm with
        | true =>
          rw [if_pos rfl] at hv
          rw [hv] at HE HI9
          clear hv
          go_wp2_with (first
            | ((with_reducible apply appV); exact rfl; exact rfl; exact OwnI.up (Up.alloc _ _) hO; exact vw_one _ _; (focus (simp; omega)); (focus (have := HL.out; omega)); (focus (simp; done)); rintro v' w' h1 h2; have hu9 : Up wS w' := Below.trans (hu.trans (Up.alloc _ _)) h2))
          go_roundg (n - (i + 1))
          case measure => omega
          case rel => exact ⟨i + 1, by omega, Nat.le_refl _, rfl, by rw [HE.out]; exact h1, hu9⟩
        | false =>
          rw [if_neg (by decide)] at hv
          rw [hv] at HE HI9
          clear hv
          go_wp2_with (first
            | ((with_reducible apply appV); exact rfl; exact rfl; exact OwnI.up (Up.alloc _ _) hO; exact vw_one _ _; (focus (simp; omega)); (focus (have := HL.out; omega)); (focus (simp; done)); rintro v' w' h1 h2; have hu9 : Up wS w' := Below.trans (hu.trans (Up.alloc _ _)) h2))
          go_roundg (n - (i + 1))
          case measure => omega
          case rel => exact ⟨i + 1, by omega, Nat.le_refl _, rfl, by rw [HE.out]; exact h1, hu9⟩
      · have dil : decide ((i : Int) < (l.length : Int)) = false := decide_eq_false (by omega)
        have hv : vecV l sm i = if sm then (i : Int).tmod 1000000 else (i : Int) := by unfold vecV; rw [if_neg hil]
        cases sm with
        | true =>
          rw [if_pos rfl] at hv
          rw [hv] at HE HI9
          clear hv
          go_wp2_with (first
            | ((with_reducible apply appV); exact rfl; exact rfl; exact OwnI.up (Up.alloc _ _) hO; exact vw_one _ _; (focus (simp; omega)); (focus (have := HL.out; omega)); (focus (simp; done)); rintro v' w' h1 h2; have hu9 : Up wS w' := Below.trans (hu.trans (Up.alloc _ _)) h2))
          go_roundg (n - (i + 1))
          case measure => omega
          case rel => exact ⟨i + 1, by omega, Nat.le_refl _, rfl, by rw [HE.out]; exact h1, hu9⟩
        | false =>
          rw [if_neg (by decide)] at hv
          rw [hv] at HE HI9
          clear hv
          go_wp2_with (first
            | ((with_reducible apply appV); exact rfl; exact rfl; exact OwnI.up (Up.alloc _ _) hO; exact vw_one _ _; (focus (simp; omega)); (focus (have := HL.out; omega)); (focus (simp; done)); rintro v' w' h1 h2; have hu9 : Up wS w' := Below.trans (hu.trans (Up.alloc _ _)) h2))
          go_roundg (n - (i + 1))
          case measure => omega
          case rel => exact ⟨i + 1, by omega, Nat.le_refl _, rfl, by rw [HE.out]; exact h1, hu9⟩
    · obtain rfl : i = n := by omega
      go_wp2_with fail
      go_ret
      exact ⟨_, _, rfl, HX.out.trans hu, HX.out.size, hO⟩
def prd (v : Nat → Int) : Nat → Int
  | 0 => 1
  | k + 1 => prd v k * v k
def dgA (v : Nat → Int) (k : Nat) : Nat → Nat → Int := fun i j => if i = j ∧ i < k then v i else 0
theorem prd_head (v : Nat → Int) : ∀ n, prd v (n + 1) = v 0 * prd (fun i => v (i + 1)) n := by
  intro n
  induction n with
  | zero => show 1 * v 0 = v 0 * 1; omega
  | succ n ih =>
    show prd v (n + 1) * v (n + 1) = v 0 * (prd (fun i => v (i + 1)) n * v (n + 1))
    rw [ih, Int.mul_assoc]
theorem det_dg : ∀ (n : Nat) (v : Nat → Int), det n (dgA v n) = prd v n := by
  intro n
  induction n with
  | zero => intro v; rfl
  | succ n ih =>
    intro v
    rw [prd_head, ← ih]
    show sumN (n + 1) (fun i => sg i * dgA v (n + 1) i 0 * det n fun r c => dgA v (n + 1) (sk i r) (c + 1)) = _
    rw [sumN_one (p := 0) (by omega) fun i hi h0 => by
      have : dgA v (n + 1) i 0 = 0 := by unfold dgA; rw [if_neg (by omega)]
      rw [this, Int.mul_zero, Int.zero_mul]]
    have e1 : dgA v (n + 1) 0 0 = v 0 := by unfold dgA; rw [if_pos ⟨rfl, by omega⟩]
    have e2 : sg 0 = 1 := rfl
    rw [e1, e2, Int.one_mul]
    refine congrArg _ (det_congr fun r c hr hc => ?_)
    unfold dgA sk
    rw [if_neg (Nat.not_lt_zero r)]
    by_cases h : r = c
    · rw [if_pos ⟨by omega, by omega⟩, if_pos ⟨h, hr⟩]
    · rw [if_neg (by omega), if_neg (by omega)]
def Dg (n : Nat) (v : Nat → Int) (k : Nat) (l : List Int) : Prop := rt n l = true ∧ ∀ i j, i < n → j < n → ent n l i j = dgA v k i j
theorem Dg.start {n : Nat} (v : Nat → Int) (h8 : n ≤ 8) : Dg n v 0 (zeros n) := ⟨rt_zeros (by omega) (by omega), fun i j _ _ => by
  unfold ent dgA
  rw [zth_zeros, if_neg (by omega)]⟩
theorem idx_dgB : (List.range 9).all (fun n => (List.range n).all fun k => (List.range n).all fun i => (List.range n).all fun j => !((idx n i j).toNat == (idx n k k).toNat) || (i == k && j == k)) = true := by decide +kernel
theorem idx_dg (n : Nat) (hn : n < 9) (k : Nat) (hk : k < n) (i : Nat) (hi : i < n) (j : Nat) (hj : j < n) (e : (idx n i j).toNat = (idx n k k).toNat) : i = k ∧ j = k := by
  have h := List.all_eq_true.1 idx_dgB n (List.mem_range.2 hn)
  have h := List.all_eq_true.1 h k (List.mem_range.2 hk)
  have h := List.all_eq_true.1 h i (List.mem_range.2 hi)
  have h := List.all_eq_true.1 h j (List.mem_range.2 hj)
  rw [e] at h
  simpa using h
theorem Dg.next {n k : Nat} {v : Nat → Int} {l : List Int} (h : Dg n v k l) (h8 : n ≤ 8) (hk : k < n) (hf : fit (v k) = true) : stC n l k k (v k) = 0 ∧ stN n l k k (v k) = n ∧ Dg n v (k + 1) (stL n l k k (v k)) := by
  have hr : rng (n : Int) k k = true := decide_eq_true (by omega)
  have h0 : stC n l k k (v k) = 0 := by unfold stC; rw [h.1, hr, hf]; rfl
  refine ⟨h0, by unfold stN; rw [if_pos h0], ?_⟩
  have e : stL n l k k (v k) = l.set (idx n k k).toNat (v k) := by unfold stL; rw [if_pos h0]
  rw [e]
  obtain ⟨q, hq, hql, hqe⟩ := idx_nat h.1 hr
  have zs : ∀ i, i < l.length → zth (l.set (idx n k k).toNat (v k)) i = if (idx n k k).toNat = i then v k else zth l i := fun i hi => by
    rw [zth_get (by rw [List.length_set]; exact hi), List.getElem_set]
    split
    · rfl
    · rw [zth_get hi]
  refine ⟨rt_of h.1 (by rw [List.length_set]) (all_yes fun i hi => ?_), fun i j hi hj => ?_⟩
  · rw [List.length_set] at hi
    rw [zs i hi]
    split
    · exact hf
    · exact (rt_spec h.1).2.2.2 i hi
  · obtain ⟨p, hp, hpl, -⟩ := idx_nat h.1 (show rng (n : Int) i j = true from decide_eq_true (by omega))
    unfold ent
    rw [zs _ (by rw [hp]; exact hpl)]
    have h1 := h.2 i j hi hj
    unfold ent at h1
    by_cases hij : i = k ∧ j = k
    · obtain ⟨rfl, rfl⟩ := hij
      rw [if_pos rfl]
      unfold dgA
      rw [if_pos ⟨rfl, by omega⟩]
    · rw [if_neg fun hh => hij (idx_dg n (by omega) k hk i hi j hj hh.symm), h1]
      unfold dgA
      by_cases hc : i = j ∧ i < k
      · rw [if_pos hc, if_pos ⟨hc.1, by omega⟩]
      · rw [if_neg hc, if_neg (by omega)]
theorem Dg.det {n : Nat} {v : Nat → Int} {l : List Int} (h : Dg n v n l) : detV n l = prd v n ∧ detC n l = 0 := by
  refine ⟨?_, by unfold detC; rw [h.1]; rfl⟩
  unfold detV
  rw [h.1, if_pos rfl, ← det_dg]
  exact det_congr fun i j hi hj => (AM_at hi hj).trans (h.2 i j hi hj)
theorem det_zrow {n p : Nat} {A : Nat → Nat → Int} (hp : p < n) (h : ∀ c, A p c = 0) : det n A = 0 := by
  have h1 := det_lin hp A 0 0 (A p) (A p)
  have e : (fun c => 0 * A p c + 0 * A p c) = A p := by funext c; rw [h c]; rfl
  rw [e, updR_self] at h1
  omega
def e0 : Nat → Int := fun c => if c = 0 then 1 else 0
theorem det_e0 (n : Nat) (A : Nat → Nat → Int) : det (n + 1) (updR A 0 e0) = det n fun r c => A (r + 1) (c + 1) := by
  show sumN (n + 1) (fun i => sg i * updR A 0 e0 i 0 * det n fun r c => updR A 0 e0 (sk i r) (c + 1)) = _
  rw [sumN_one (p := 0) (by omega) fun i hi h0 => by
    rw [det_zrow (p := 0) (by omega) fun c => by
      have : sk i 0 = 0 := by unfold sk; rw [if_pos (by omega)]
      rw [this, updR_at]; rfl]
    rw [Int.mul_zero]]
  rw [updR_at]
  show (1 : Int) * 1 * _ = _
  rw [Int.one_mul, Int.one_mul]
  refine det_congr fun r c _ _ => ?_
  have : sk 0 r = r + 1 := by unfold sk; rw [if_neg (Nat.not_lt_zero r)]
  rw [this]
  unfold updR
  rw [if_neg (by omega)]
def one0 (A : Nat → Nat → Int) : Nat → Nat → Int := updR A 0 fun c => 1 * A 0 c + (1 - A 0 0) * e0 c
theorem one0_det (n : Nat) (A : Nat → Nat → Int) : det (n + 1) (one0 A) = det (n + 1) A + (1 - A 0 0) * det n fun r c => A (r + 1) (c + 1) := by
  unfold one0
  rw [det_lin (by omega), updR_self, det_e0, Int.one_mul]
theorem one0_at (A : Nat → Nat → Int) (i j : Nat) : one0 A i j = if i = 0 ∧ j = 0 then 1 else A i j := by
  unfold one0 updR e0
  by_cases hi : i = 0
  · subst hi
    by_cases hj : j = 0
    · subst hj; simp; omega
    · simp [hj]
  · simp [hi]
theorem det_turn : ∀ (n : Nat) (A : Nat → Nat → Int), (det n fun i j => A j i) = det n A := by
  intro n
  induction n with
  | zero => intro A; rfl
  | succ n ih =>
    intro A
    have h1 := one0_det n A
    have h2 := one0_det n fun i j => A j i
    have h3 := ih fun r c => A (r + 1) (c + 1)
    have h4 := det_chio n (one0 A)
    have h5 := det_chio n (one0 fun i j => A j i)
    rw [show one0 A 0 0 = 1 from by rw [one0_at]; rfl, Int.one_pow, Int.one_mul, Int.one_mul] at h4
    rw [show one0 (fun i j => A j i) 0 0 = 1 from by rw [one0_at]; rfl, Int.one_pow, Int.one_mul, Int.one_mul] at h5
    have h6 : det n (chio (one0 fun i j => A j i)) = det n (chio (one0 A)) := by
      rw [← ih (chio (one0 A))]
      refine det_congr fun i j _ _ => ?_
      have hc : ∀ i j, one0 (fun i j => A j i) i j = one0 A j i := fun i j => by
        rw [one0_at, one0_at]
        by_cases h : i = 0 ∧ j = 0
        · rw [if_pos h, if_pos ⟨h.2, h.1⟩]
        · rw [if_neg h, if_neg fun x => h ⟨x.2, x.1⟩]
      unfold chio
      rw [hc, hc, hc, hc, Int.mul_comm (one0 A 0 (i + 1))]
    have h7 : (det n fun r c => (fun i j => A j i) (r + 1) (c + 1)) = det n fun r c => A (r + 1) (c + 1) := h3
    rw [h7] at h2
    show det (n + 1) (fun i j => A j i) = _
    have h8 : (1 - (fun i j => A j i) 0 0) = 1 - A 0 0 := rfl
    rw [h8] at h2
    omega
def prodN : Nat → (Nat → Nat) → Nat
  | 0, _ => 1
  | n + 1, f => f 0 * prodN n fun i => f (i + 1)
theorem det_cols : ∀ {n : Nat} {A : Nat → Nat → Int} {m : Nat → Nat}, (∀ i j, i < n → j < n → (A i j).natAbs ≤ m j) → (det n A).natAbs ≤ fct n * prodN n m := by
  intro n
  induction n with
  | zero => intro A m _; simp [det, fct, prodN]
  | succ n ih =>
    intro A m h
    have h1 : (det (n + 1) A).natAbs ≤ (n + 1) * (m 0 * (fct n * prodN n fun j => m (j + 1))) := sumN_abs fun i hi => by
      have := ih (A := fun r c => A (sk i r) (c + 1)) (m := fun j => m (j + 1)) fun r c hr hc => h _ _ (sk_lt hr) (by omega)
      rw [Int.natAbs_mul, Int.natAbs_mul, show (sg i).natAbs = 1 from by unfold sg; split <;> rfl, Nat.one_mul]
      exact Nat.mul_le_mul (h i 0 hi (by omega)) this
    rw [show fct (n + 1) * prodN (n + 1) m = (n + 1) * (m 0 * (fct n * prodN n fun j => m (j + 1))) from by
      rw [show fct (n + 1) = (n + 1) * fct n from rfl, show prodN (n + 1) m = m 0 * prodN n fun j => m (j + 1) from rfl]; grind]
    exact h1
def cb (n j : Nat) : Nat := if j = n then 72057594037927936 else 1073741824
theorem prod_none : ∀ (r n : Nat) (C : Nat → Nat), (∀ a, a < r → C a ≠ n) → prodN r (fun j => cb n (C j)) = 1073741824 ^ r := by
  intro r
  induction r with
  | zero => intro n C _; rfl
  | succ r ih =>
    intro n C h
    show cb n (C 0) * prodN r (fun j => cb n (C (j + 1))) = _
    rw [ih n (fun j => C (j + 1)) fun a ha => h (a + 1) (by omega)]
    unfold cb
    rw [if_neg (h 0 (by omega)), Nat.pow_succ, Nat.mul_comm]
theorem prod_one : ∀ (r n : Nat) (C : Nat → Nat), (∀ a b, a < r + 1 → b < r + 1 → C a = n → C b = n → a = b) → prodN (r + 1) (fun j => cb n (C j)) ≤ 1073741824 ^ r * 72057594037927936 := by
  intro r
  induction r with
  | zero =>
    intro n C _
    show cb n (C 0) * 1 ≤ _
    unfold cb
    rw [Nat.pow_zero, Nat.one_mul, Nat.mul_one]
    split <;> omega
  | succ r ih =>
    intro n C h
    show cb n (C 0) * prodN (r + 1) (fun j => cb n (C (j + 1))) ≤ _
    by_cases e : C 0 = n
    · rw [prod_none (r + 1) n (fun j => C (j + 1)) fun a ha h1 => absurd (h 0 (a + 1) (by omega) (by omega) e h1) (by omega)]
      unfold cb
      rw [if_pos e, Nat.mul_comm]
      exact Nat.le_refl _
    · have h1 := ih n (fun j => C (j + 1)) fun a b ha hb h1 h2 => by have := h (a + 1) (b + 1) (by omega) (by omega) h1 h2; omega
      have h2 : cb n (C 0) = 1073741824 := by unfold cb; rw [if_neg e]
      rw [h2, Nat.pow_succ, Nat.mul_comm (1073741824 ^ r), Nat.mul_assoc]
      exact Nat.mul_le_mul_left _ h1
def AV (n : Nat) (l v : List Int) : Nat → Nat → Int := fun i j =>
  if i < n then (if j < n then ent n l i j else if j = n then zth v i else 0) else if i = j + n then -1 else 0
theorem AV_abs {n : Nat} {l v : List Int} (hR : rt n l = true) (hv : ∀ i, (zth v i).natAbs ≤ 72057594037927936) (i j : Nat) : (AV n l v i j).natAbs ≤ cb n j := by
  unfold AV cb
  by_cases h : i < n
  · rw [if_pos h]
    by_cases h2 : j < n
    · rw [if_pos h2, if_neg (by omega)]
      have := AM_abs hR i j
      rw [AM_at h h2] at this
      exact this
    · rw [if_neg h2]
      by_cases h3 : j = n
      · rw [if_pos h3, if_pos h3]; exact hv i
      · rw [if_neg h3]; simp
  · rw [if_neg h]
    split <;> split <;> simp
def bv (k r : Nat) : Nat := fct (r + k + 1) * (1073741824 ^ (r + k) * 72057594037927936)
theorem bv_succ (k r : Nat) : bv (k + 1) r = bv k (r + 1) := by
  unfold bv
  rw [show r + (k + 1) = r + 1 + k by omega]
theorem bv_bp {k : Nat} (h : k ≤ 8) : bv k 0 < bp 5 := by
  rw [bp5_is]
  rcases k with _ | _ | _ | _ | _ | _ | _ | _ | _ | k
  · decide +kernel
  · decide +kernel
  · decide +kernel
  · decide +kernel
  · decide +kernel
  · decide +kernel
  · decide +kernel
  · decide +kernel
  · decide +kernel
  · omega
theorem Good.startV {n : Nat} {l v : List Int} (hR : rt n l = true) (hv : ∀ i, (zth v i).natAbs ≤ 72057594037927936) : Good 1 (bv 0) (AV n l v) := fun r R C => by
  refine ⟨_, by rw [Int.one_pow, Int.one_mul], ?_⟩
  by_cases h : ∃ a b, a < r + 1 ∧ b < r + 1 ∧ a ≠ b ∧ C a = n ∧ C b = n
  · obtain ⟨a, b, ha, hb, hab, h1, h2⟩ := h
    have e := det_turn (r + 1) (fun i j => AV n l v (R i) (C j))
    rw [← e, det_twice hab ha hb fun c => by show AV n l v (R c) (C a) = AV n l v (R c) (C b); rw [h1, h2]]
    exact Nat.zero_le _
  · refine Nat.le_trans (det_cols (m := fun j => cb n (C j)) fun i j _ _ => AV_abs hR hv _ _) ?_
    unfold bv
    exact Nat.mul_le_mul_left _ (prod_one r n C fun a b ha hb h1 h2 => Classical.byContradiction fun hab => h ⟨a, b, ha, hb, hab, h1, h2⟩)
def SV (q : Int) (k : Nat) (M : Nat → Nat → Int) : Prop := Good q (bv k) M ∧ 0 < q ∧ q.natAbs < bp 5
theorem SV.entry {q : Int} {k : Nat} {M : Nat → Nat → Int} (h : SV q k M) (hk : k ≤ 8) (i j : Nat) : (M i j).natAbs < bp 5 := Nat.lt_of_le_of_lt (h.1.entry i j) (bv_bp hk)
theorem SV.next {q : Int} {k : Nat} {M : Nat → Nat → Int} (h : SV q k M) (hk : k ≤ 8) (ha : 0 < M 0 0) : SV (M 0 0) (k + 1) (nxt q M) :=
  ⟨(h.1.next (Int.ne_of_gt h.2.1) (Int.ne_of_gt ha)).mono fun r => by rw [bv_succ]; exact Nat.le_refl _, ha, h.entry hk 0 0⟩
theorem SV.start {n : Nat} {l v : List Int} (hR : rt n l = true) (hv : ∀ i, (zth v i).natAbs ≤ 72057594037927936) : SV 1 0 (AV n l v) :=
  ⟨Good.startV hR hv, by decide, (St.start hR).2.2⟩
def gs (A : Nat → Nat → Int) : Nat → Int × (Nat → Nat → Int)
  | 0 => (1, A)
  | k + 1 => ((gs A k).2 0 0, nxt (gs A k).1 (gs A k).2)
theorem gs_mins {n : Nat} {A : Nat → Nat → Int} (h : ∀ x ∈ mins n 1 A, 0 < x) : ∀ k s, k + s = n → ∀ x ∈ mins s (gs A k).1 (gs A k).2, 0 < x := by
  intro k
  induction k with
  | zero => intro s hs; obtain rfl : s = n := (by omega); exact h
  | succ k ih =>
    intro s hs
    have h1 := ih (s + 1) (by omega)
    rw [show mins (s + 1) (gs A k).1 (gs A k).2 = (gs A k).2 0 0 :: (if 0 < (gs A k).2 0 0 then mins s ((gs A k).2 0 0) (nxt (gs A k).1 (gs A k).2) else []) from rfl] at h1
    have h2 := h1 _ (List.mem_cons_self ..)
    rw [if_pos h2] at h1
    exact fun x hx => h1 x (List.mem_cons_of_mem _ hx)
theorem gs_pos {n : Nat} {A : Nat → Nat → Int} (h : ∀ x ∈ mins n 1 A, 0 < x) {k : Nat} (hk : k < n) : 0 < (gs A k).2 0 0 := by
  have h1 := gs_mins h k (n - k) (by omega)
  rw [show n - k = (n - k - 1) + 1 by omega] at h1
  exact h1 _ (List.mem_cons_self ..)
structure Def (n : Nat) (l v : List Int) : Prop where
  right : rt n l = true
  pos : ∀ x ∈ mins n 1 (AM n l), 0 < x
  vec : ∀ i, (zth v i).natAbs ≤ 72057594037927936
theorem AV_AM (n : Nat) (l v : List Int) : ∀ i j, i < n → j < n → AV n l v i j = AM n l i j := fun i j hi hj => by
  unfold AV; rw [if_pos hi, if_pos hj, AM_at hi hj]
theorem Def.pos' {n : Nat} {l v : List Int} (h : Def n l v) : ∀ x ∈ mins n 1 (AV n l v), 0 < x := by
  rw [mins_congr (AV_AM n l v)]; exact h.pos
theorem Def.n8 {n : Nat} {l v : List Int} (h : Def n l v) : n ≤ 8 := by have := (rt_spec h.right).2.1; omega
theorem Def.sv {n : Nat} {l v : List Int} (h : Def n l v) : ∀ k, k ≤ n → SV (gs (AV n l v) k).1 k (gs (AV n l v) k).2 := by
  intro k
  induction k with
  | zero => intro _; exact SV.start h.right h.vec
  | succ k ih => intro hk; exact (ih (by omega)).next (by have := h.n8; omega) (gs_pos h.pos' (by omega))
theorem Def.low {n : Nat} {l v : List Int} (h : Def n l v) : ∀ k, k ≤ n → ∀ t j, (gs (AV n l v) k).2 (n + t) j = if j = t then -(gs (AV n l v) k).1 else 0 := by
  intro k
  induction k with
  | zero =>
    intro _ t j
    show AV n l v (n + t) j = _
    unfold AV
    rw [if_neg (by omega)]
    by_cases e : j = t
    · rw [if_pos (by omega), if_pos e]; rfl
    · rw [if_neg (by omega), if_neg e]
  | succ k ih =>
    intro hk t j
    have hs := h.sv k (by omega)
    have h1 := ih (by omega) (t + 1) (j + 1)
    have h2 := ih (by omega) (t + 1) 0
    rw [if_neg (by omega)] at h2
    show nxt _ _ (n + t) j = _
    unfold nxt chio
    rw [show n + t + 1 = n + (t + 1) by omega, h1, h2]
    by_cases e : j = t
    · rw [if_pos (by omega), if_pos e, Int.zero_mul, Int.sub_zero, Int.mul_neg, Int.neg_tdiv, Int.mul_tdiv_cancel _ (Int.ne_of_gt hs.2.1)]
      rfl
    · rw [if_neg (by omega), if_neg e, Int.zero_mul, Int.mul_zero, Int.sub_zero, Int.zero_tdiv]
theorem Def.last {n : Nat} {l v : List Int} (h : Def n l v) {k : Nat} (hk : k < n) (j : Nat) : (gs (AV n l v) (k + 1)).2 (n - 1) j = (gs (AV n l v) k).2 0 (j + 1) := by
  have hs := h.sv k (by omega)
  have h1 := h.low k (by omega) 0 (j + 1)
  have h2 := h.low k (by omega) 0 0
  rw [if_neg (by omega)] at h1
  rw [if_pos rfl] at h2
  show nxt _ _ (n - 1) j = _
  unfold nxt chio
  rw [show n - 1 + 1 = n + 0 by omega, h1, h2, Int.mul_zero, Int.zero_sub, Int.neg_mul, Int.neg_neg, Int.mul_tdiv_cancel_left _ (Int.ne_of_gt hs.2.1)]
def slX (n : Nat) (l v : List Int) (i : Nat) : Int := (gs (AV n l v) n).2 i 0
def slD (n : Nat) (l : List Int) : Int := det n (AM n l)
theorem Def.full {n : Nat} {l v : List Int} (h : Def n l v) : ∀ k, k ≤ n → Full (gs (AV n l v) k).1 (n - k) (gs (AV n l v) k).2 (slD n l) := by
  intro k
  induction k with
  | zero =>
    intro _
    have := Full.start n (AV n l v)
    rw [det_congr (AV_AM n l v)] at this
    exact this
  | succ k ih =>
    intro hk
    have hs := h.sv k (by omega)
    have hf := ih (by omega)
    rw [show n - k = (n - (k + 1)) + 1 by omega] at hf
    exact Full.next hs.1 (Int.ne_of_gt hs.2.1) (Int.ne_of_gt (gs_pos h.pos' (by omega))) hf
theorem Def.den {n : Nat} {l v : List Int} (h : Def n l v) : (gs (AV n l v) n).1 = slD n l := by
  have hf := h.full n (Nat.le_refl _)
  rw [Nat.sub_self] at hf
  exact hf.zero.symm
theorem Def.den_pos {n : Nat} {l v : List Int} (h : Def n l v) : 0 < slD n l := by
  rw [← h.den]; exact (h.sv n (Nat.le_refl _)).2.1
theorem Def.den_bp {n : Nat} {l v : List Int} (h : Def n l v) : (slD n l).natAbs < bp 5 := by
  rw [← h.den]; exact (h.sv n (Nat.le_refl _)).2.2
theorem Def.num_bp {n : Nat} {l v : List Int} (h : Def n l v) (i : Nat) : (slX n l v i).natAbs < bp 5 := (h.sv n (Nat.le_refl _)).entry h.n8 i 0
def Win (n s : Nat) (L : List (List Int)) (M : Nat → Nat → Int) : Prop := L.length = n ∧ ∀ i, i < n → (L.getD i []).length = s + 1 ∧ ∀ j, j < s + 1 → zth (L.getD i []) j = M i j
def turn (q : Int) (s : Nat) (L : List (List Int)) : List (List Int) := ((L.drop 1).map fun R => tk (L.getD 0 []) R q (s + 1)) ++ [(L.getD 0 []).drop 1]
theorem Win.next {n s : Nat} {q : Int} {L : List (List Int)} {M : Nat → Nat → Int} (h : Win n (s + 1) L M) (hn : 0 < n) (hl : ∀ j, nxt q M (n - 1) j = M 0 (j + 1)) : Win n s (turn q s L) (nxt q M) := by
  have hd : ((L.drop 1).map fun R => tk (L.getD 0 []) R q (s + 1)).length = n - 1 := by rw [List.length_map, List.length_drop, h.1]
  unfold turn
  refine ⟨by rw [List.length_append, hd, List.length_singleton]; omega, fun i hi => ?_⟩
  by_cases e : i < n - 1
  · have e2 : (((L.drop 1).map fun R => tk (L.getD 0 []) R q (s + 1)) ++ [(L.getD 0 []).drop 1]).getD i [] = tk (L.getD 0 []) (L.getD (i + 1) []) q (s + 1) := by
      rw [List.getD_eq_getElem?_getD, List.getElem?_append_left (by omega), List.getElem?_map, List.getElem?_eq_getElem (by rw [List.length_drop, h.1]; omega), List.getElem_drop]
      have : L.getD (i + 1) [] = L[1 + i]'(by rw [h.1]; omega) := by
        rw [List.getD_eq_getElem?_getD, Nat.add_comm, List.getElem?_eq_getElem (by rw [h.1]; omega)]
        rfl
      rw [this]
      rfl
    rw [e2]
    refine ⟨mk_len _ _, fun j hj => ?_⟩
    unfold tk
    rw [mk_at hj, (h.2 0 hn).2 0 (by omega), (h.2 0 hn).2 (j + 1) (by omega), (h.2 (i + 1) (by omega)).2 0 (by omega), (h.2 (i + 1) (by omega)).2 (j + 1) (by omega)]
    rfl
  · obtain rfl : i = n - 1 := by omega
    have e2 : (((L.drop 1).map fun R => tk (L.getD 0 []) R q (s + 1)) ++ [(L.getD 0 []).drop 1]).getD (n - 1) [] = (L.getD 0 []).drop 1 := by
      rw [List.getD_eq_getElem?_getD, List.getElem?_append_right (by omega), hd, Nat.sub_self]
      rfl
    rw [e2]
    have h0 := h.2 0 hn
    refine ⟨by rw [List.length_drop, h0.1]; omega, fun j hj => ?_⟩
    rw [zth_drop, h0.2 (j + 1) (by omega), hl]
theorem Win.few {n s k : Nat} {q : Int} {L : List (List Int)} {M : Nat → Nat → Int} (h : Win n s L M) (hs : SV q k M) (hk : k ≤ 8) (i : Nat) : Few (L.getD i []) := fun j => by
  have h0 : (0 : Int).natAbs < bp 5 := bp_pos 5
  by_cases hi : i < n
  · obtain ⟨h1, h2⟩ := h.2 i hi
    by_cases hj : j < s + 1
    · rw [h2 j hj]; exact hs.entry hk i j
    · rw [zth_far (by omega)]; exact h0
  · rw [List.getD_eq_getElem?_getD, List.getElem?_eq_none (by rw [h.1]; omega)]
    show (zth [] j).natAbs < _
    rw [zth_far (Nat.zero_le _)]; exact h0
def zz (n : Nat) (l v : List Int) (c : Nat) : Int := if c < n then slX n l v c else -(slD n l)
theorem Def.back {n : Nat} {l v : List Int} (h : Def n l v) : ∀ d k, k + d = n →
    (∀ i, i < n - k → sumN (n - k + 1) (fun j => (gs (AV n l v) k).2 i j * zz n l v (k + j)) = 0) ∧
    ∀ r, r < k → sumN (n - k + 1) (fun j => (gs (AV n l v) k).2 (n - k + r) j * zz n l v (k + j)) = -(gs (AV n l v) k).1 * zz n l v r := by
  intro d
  induction d with
  | zero =>
    intro k hk
    obtain rfl : k = n := by omega
    rw [Nat.sub_self]
    refine ⟨fun i hi => absurd hi (Nat.not_lt_zero _), fun r hr => ?_⟩
    show 0 + (gs (AV k l v) k).2 (0 + r) 0 * zz k l v (k + 0) = _
    rw [h.den]
    unfold zz
    rw [if_neg (by omega), if_pos hr, Nat.zero_add]
    show 0 + slX k l v r * _ = _
    grind
  | succ d ih =>
    intro k hk
    obtain ⟨h1, h2⟩ := ih (k + 1) (by omega)
    have hs := h.sv k (by omega)
    have hp := gs_pos h.pos' (show k < n by omega)
    have hlast := fun j => h.last (show k < n by omega) j
    have hq : (gs (AV n l v) (k + 1)).1 = (gs (AV n l v) k).2 0 0 := rfl
    have hM : (gs (AV n l v) (k + 1)).2 = nxt (gs (AV n l v) k).1 (gs (AV n l v) k).2 := rfl
    obtain ⟨s, hsn⟩ : ∃ s, n - (k + 1) = s := ⟨_, rfl⟩
    rw [hsn] at h1 h2
    rw [show n - k = s + 1 by omega]
    rw [hq, hM] at h2
    rw [hM] at h1 hlast
    generalize (gs (AV n l v) k).2 = M at *
    generalize (gs (AV n l v) k).1 = q at *
    have hsplit : ∀ i, sumN (s + 1 + 1) (fun j => M i j * zz n l v (k + j)) = M i 0 * zz n l v k + sumN (s + 1) (fun j => M i (j + 1) * zz n l v (k + 1 + j)) := fun i => by
      rw [sumN_head]
      show M i 0 * zz n l v (k + 0) + _ = _
      rw [Nat.add_zero]
      congr 1
      exact sumN_congr fun j _ => by rw [show k + (j + 1) = k + 1 + j by omega]
    have hstep : ∀ i, q * sumN (s + 1) (fun j => nxt q M i j * zz n l v (k + 1 + j)) = M 0 0 * sumN (s + 1) (fun j => M (i + 1) (j + 1) * zz n l v (k + 1 + j)) + (-(M (i + 1) 0)) * sumN (s + 1) (fun j => M 0 (j + 1) * zz n l v (k + 1 + j)) := fun i => by
      rw [sumN_mul]
      refine sumN_lin fun j _ => ?_
      have he := hs.1.exact (Int.ne_of_gt hs.2.1) i j
      unfold chio at he
      rw [← Int.mul_assoc, he]
      grind
    have hzero : sumN (s + 1 + 1) (fun j => M 0 j * zz n l v (k + j)) = 0 := by
      have h3 := h2 k (by omega)
      rw [show s + k = n - 1 by omega] at h3
      have h4 : sumN (s + 1) (fun j => nxt q M (n - 1) j * zz n l v (k + 1 + j)) = sumN (s + 1) (fun j => M 0 (j + 1) * zz n l v (k + 1 + j)) := sumN_congr fun j _ => by rw [hlast j]
      rw [h4] at h3
      rw [hsplit, h3]
      grind
    have hz2 := hzero
    rw [hsplit] at hz2
    have hmain : ∀ i, q * sumN (s + 1) (fun j => nxt q M i j * zz n l v (k + 1 + j)) = M 0 0 * sumN (s + 1 + 1) (fun j => M (i + 1) j * zz n l v (k + j)) := fun i => by
      rw [hstep, hsplit]
      generalize sumN (s + 1) (fun j => M 0 (j + 1) * zz n l v (k + 1 + j)) = X at *
      generalize sumN (s + 1) (fun j => M (i + 1) (j + 1) * zz n l v (k + 1 + j)) = Y at *
      have : X = -(M 0 0 * zz n l v k) := by omega
      rw [this]
      grind
    refine ⟨fun i hi => ?_, fun r hr => ?_⟩
    · rcases i with _ | i
      · exact hzero
      · have h3 := hmain i
        rw [h1 i (by omega), Int.mul_zero] at h3
        rcases Int.mul_eq_zero.1 h3.symm with h4 | h4
        · omega
        · exact h4
    · have h3 := hmain (s + r)
      rw [h2 r (by omega)] at h3
      rw [show s + 1 + r = s + r + 1 by omega]
      refine Int.eq_of_mul_eq_mul_left (Int.ne_of_gt hp) ?_
      rw [← h3]
      grind
theorem Def.solves {n : Nat} {l v : List Int} (h : Def n l v) {i : Nat} (hi : i < n) : sumN n (fun j => ent n l i j * slX n l v j) = zth v i * slD n l := by
  have h1 := (h.back n 0 (by omega)).1 i (by omega)
  rw [Nat.sub_zero] at h1
  have e : sumN (n + 1) (fun j => (gs (AV n l v) 0).2 i j * zz n l v (0 + j)) = sumN n (fun j => AV n l v i j * zz n l v (0 + j)) + AV n l v i n * zz n l v (0 + n) := rfl
  rw [e] at h1
  have e2 : sumN n (fun j => AV n l v i j * zz n l v (0 + j)) = sumN n (fun j => ent n l i j * slX n l v j) := sumN_congr fun j hj => by
    unfold AV zz
    rw [Nat.zero_add, if_pos hi, if_pos hj, if_pos hj]
  have e3 : AV n l v i n = zth v i := by unfold AV; rw [if_pos hi, if_neg (Nat.lt_irrefl _), if_pos rfl]
  have e4 : zz n l v (0 + n) = -(slD n l) := by unfold zz; rw [Nat.zero_add, if_neg (Nat.lt_irrefl _)]
  rw [e2, e3, e4, Int.mul_neg] at h1
  omega
theorem Def.pd {n : Nat} {l v : List Int} (h : Def n l v) : PD n (AM n l) := (pd_mins (by decide) (St.start h.right).1 (AM_symm n l)).2 h.pos
theorem sumN_comm (n m : Nat) (f : Nat → Nat → Int) : (sumN n fun i => sumN m fun j => f i j) = sumN m fun j => sumN n fun i => f i j := by
  induction n with
  | zero => exact (sumN_zero fun i _ => rfl).symm
  | succ n ih =>
    show sumN n (fun i => sumN m fun j => f i j) + sumN m (fun j => f n j) = _
    rw [ih, sumN_add]
    rfl
theorem pd_uniq {n : Nat} {l : List Int} (h : PD n (AM n l)) {u : Nat → Int} (hu : ∀ i, i < n → sumN n (fun j => ent n l i j * u j) = 0) : ∀ i, i < n → u i = 0 := fun i hi => by
  refine Classical.byContradiction fun h0 => ?_
  have h1 := h u ⟨i, hi, h0⟩
  have h2 : quad n (AM n l) u = 0 := sumN_zero fun a ha => by
    have e : sumN n (fun j => AM n l a j * u a * u j) = u a * sumN n (fun j => ent n l a j * u j) := by
      rw [sumN_mul]
      exact sumN_congr fun j hj => by rw [AM_at ha hj]; grind
    rw [e, hu a ha, Int.mul_zero]
  omega
theorem slX_sum {n : Nat} {l a b c : List Int} (ha : Def n l a) (hb : Def n l b) (hc : Def n l c) (h : ∀ i, i < n → zth c i = zth a i + zth b i) {i : Nat} (hi : i < n) : slX n l a i + slX n l b i = slX n l c i := by
  have h1 := pd_uniq ha.pd (u := fun i => slX n l a i + slX n l b i - slX n l c i) (fun i hi => by
    have e : sumN n (fun j => ent n l i j * (slX n l a j + slX n l b j - slX n l c j)) = 1 * (1 * sumN n (fun j => ent n l i j * slX n l a j) + 1 * sumN n (fun j => ent n l i j * slX n l b j)) + (-1) * sumN n (fun j => ent n l i j * slX n l c j) := by
      rw [← sumN_lin (f := fun j => ent n l i j * slX n l a j + ent n l i j * slX n l b j) fun j _ => by grind]
      exact sumN_lin fun j _ => by grind
    rw [e, ha.solves hi, hb.solves hi, hc.solves hi, h i hi]
    grind) i hi
  have h2 : slX n l a i + slX n l b i - slX n l c i = 0 := h1
  omega
theorem ent_turn (n : Nat) (l : List Int) (i j : Nat) : ent n l i j = ent n l j i := by unfold ent; rw [idx_turn]
def unitL (n a : Nat) : List Int := mk n fun i => if i = a then 1 else 0
theorem slX_sides {n a b : Nat} {l : List Int} (ha : Def n l (unitL n a)) (hb : Def n l (unitL n b)) (h1 : a < n) (h2 : b < n) : slX n l (unitL n a) b = slX n l (unitL n b) a := by
  have key : ∀ {a b : Nat} (_ : Def n l (unitL n a)) (_ : a < n), sumN n (fun i => slX n l (unitL n b) i * sumN n (fun j => ent n l i j * slX n l (unitL n a) j)) = slX n l (unitL n b) a * slD n l := fun {a b} ha h1 => by
    rw [sumN_one (p := a) h1 fun i hi h0 => by
      rw [ha.solves hi]
      unfold unitL
      rw [mk_at hi, if_neg h0, Int.zero_mul, Int.mul_zero]]
    rw [ha.solves h1]
    unfold unitL
    rw [mk_at h1, if_pos rfl, Int.one_mul]
  have k1 := key (b := b) ha h1
  have k2 := key (b := a) hb h2
  have e : sumN n (fun i => slX n l (unitL n b) i * sumN n (fun j => ent n l i j * slX n l (unitL n a) j)) = sumN n (fun i => slX n l (unitL n a) i * sumN n (fun j => ent n l i j * slX n l (unitL n b) j)) := by
    have f1 : sumN n (fun i => slX n l (unitL n b) i * sumN n (fun j => ent n l i j * slX n l (unitL n a) j)) = sumN n (fun i => sumN n fun j => slX n l (unitL n b) i * (ent n l i j * slX n l (unitL n a) j)) := sumN_congr fun i _ => sumN_mul _ _ _
    have f2 : sumN n (fun i => slX n l (unitL n a) i * sumN n (fun j => ent n l i j * slX n l (unitL n b) j)) = sumN n (fun i => sumN n fun j => slX n l (unitL n a) i * (ent n l i j * slX n l (unitL n b) j)) := sumN_congr fun i _ => sumN_mul _ _ _
    rw [f1, f2, sumN_comm]
    exact sumN_congr fun i _ => sumN_congr fun j _ => by rw [ent_turn n l j i]; grind
  rw [e] at k1
  rw [k1] at k2
  exact (Int.eq_of_mul_eq_mul_right (Int.ne_of_gt ha.den_pos) k2).symm
end Go.Proofs.YtjoenldfjggciaaGreatDoor
