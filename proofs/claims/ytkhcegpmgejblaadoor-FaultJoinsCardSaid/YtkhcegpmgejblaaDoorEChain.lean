/-
  leadlinelaw4.chain: an error of ops; slices of strings that came in.
-/
import Derived.Test.YtkhcegpmgejblaaDoorEKnown
namespace Go.Proofs.YtkhcegpmgejblaaDoor
open Go Go.RowKit
set_option maxRecDepth 100000
set_option maxRecDepth 100000

def nth (l : List ByteArray) (i : Nat) : ByteArray := l.getD i ByteArray.empty
theorem nth_get {l : List ByteArray} {i : Nat} (h : i < l.length) : nth l i = l[i] := by
  unfold nth; rw [List.getD_eq_getElem?_getD, List.getElem?_eq_getElem h]; rfl
/-- The value v is a slice of the strings l, in world w. -/
def Strs (w : World) (v : Value) (l : List ByteArray) : Prop :=
  ∃ p cap, v = .slice p l.length cap ∧ ∀ i, i < l.length → ∃ a, p = some a ∧ w.cell? (a.add i) = some (.string (nth l i))
theorem Strs.up {w w' : World} (hu : Up w w') {v : Value} {l : List ByteArray} (h : Strs w v l) : Strs w' v l := by
  obtain ⟨p, cap, e, hc⟩ := h
  refine ⟨p, cap, e, fun i hi => ?_⟩
  obtain ⟨a, ha, h1⟩ := hc i hi
  exact ⟨a, ha, hu.cellEq h1⟩
theorem Strs.own {w : World} {base : Nat} {v : Value} {l : List ByteArray} (h : w.ownsRow base 9 1 v l.length (l.map Value.string)) : Strs w v l := by
  obtain ⟨_, h0 | ⟨g, cap, cur, rfl, _, hb, _, _, hsz, htake⟩⟩ := h
  · obtain ⟨rfl, h2⟩ := h0
    have : l = [] := List.length_eq_zero_iff.1 h2
    subst this
    exact ⟨none, 0, rfl, fun i hi => absurd hi (Nat.not_lt_zero _)⟩
  · refine ⟨_, cap, rfl, fun i hi => ⟨_, rfl, ?_⟩⟩
    have hB : Blk w g 9 cur := hb
    have h1 : cur[i]? = some (.string (nth l i)) := by
      rw [← Array.getElem?_toList, ← List.getElem?_take_of_lt (show i < l.length * 1 by omega), htake, List.getElem?_map, nth_get hi, List.getElem?_eq_getElem hi]
      rfl
    have h2 := hB.cell i h1
    have e : Addr.add ⟨g, 0, none⟩ i = ⟨g, i, none⟩ := by unfold Addr.add; simp; omega
    rw [e]
    exact h2
/-- An error of ops, the number innermost. -/
def chainE (x : Int) : List ByteArray → Er
  | [] => .num x
  | op :: r => .flt op (chainE x r)
theorem chainE_first (x : Int) (l : List ByteArray) : (chainE x l).first = some x := by
  induction l with
  | nil => rfl
  | cons op r ih => exact ih
theorem chainE_ops (x : Int) (l : List ByteArray) : (chainE x l).ops = l := by
  induction l with
  | nil => rfl
  | cons op r ih => show op :: (chainE x r).ops = _; rw [ih]
theorem chainE_has (x n : Int) (l : List ByteArray) : (chainE x l).has n = (x == n) := by
  induction l with
  | nil => rfl
  | cons op r ih => exact ih
theorem chainE_chain (x : Int) (l : List ByteArray) (h : 0 ≤ x ∧ x < 100) : (chainE x l).chain := by
  induction l with
  | nil => exact h
  | cons op r ih => exact ih
/-- What is written ahead of the number. -/
def ahead : List ByteArray → ByteArray
  | [] => { data := #[] }
  | op :: r => op ++ colon ++ ahead r
theorem chainE_text (x : Int) (l : List ByteArray) : (chainE x l).text = ahead l ++ (errs ++ digits x.toNat) := by
  induction l with
  | nil => show _ = ByteArray.empty ++ _; rw [ByteArray.empty_append]; rfl
  | cons op r ih => show op ++ colon ++ (chainE x r).text = _; rw [ih]; show _ = (op ++ colon ++ ahead r) ++ _; simp only [ByteArray.append_assoc]
theorem ahead_snoc (l : List ByteArray) (op : ByteArray) : ahead (l ++ [op]) = ahead l ++ op ++ colon := by
  induction l with
  | nil => show op ++ colon ++ ByteArray.empty = ByteArray.empty ++ op ++ colon; rw [ByteArray.append_empty, ByteArray.empty_append]
  | cons o r ih => show o ++ colon ++ ahead (r ++ [op]) = (o ++ colon ++ ahead r) ++ op ++ colon; rw [ih]; simp only [ByteArray.append_assoc]
theorem drop_at {l : List ByteArray} {i : Nat} (h : i < l.length) : l.drop i = nth l i :: l.drop (i + 1) := by
  rw [List.drop_eq_getElem_cons h, nth_get h]
theorem take_at {l : List ByteArray} {i : Nat} (h : i < l.length) : l.take (i + 1) = l.take i ++ [nth l i] := by
  rw [List.take_add_one, nth_get h, List.getElem?_eq_getElem h]; rfl
set_option maxHeartbeats 4000000 in
theorem chain_any {w : World} {v : Value} {l : List ByteArray} (n : Nat) (hl : l.length ≤ 1000000) (h : Strs w v l) :
    Calls Tryd.prog 8 #[v, .int .u8 (n : Nat)] w fun r w' => ∃ u, r = .returned u ∧ Up w w' ∧ IsEr w' u (chainE (((n % 60 : Nat) : Int) + 1) l) := by
  obtain ⟨p, cap, rfl, hc⟩ := h
  obtain ⟨a0, ha0⟩ : ∃ r, n % 60 = r := ⟨_, rfl⟩
  have ra : (n : Int).tmod 60 = (a0 : Nat) := by rw [show (60 : Int) = ((60 : Nat) : Int) from rfl, ← Int.ofNat_tmod, ha0]
  rw [ha0]
  have la : a0 < 60 := by omega
  clear ha0
  have HC := hid hc
  clear hc
  go_enter Tryd.func8, Tryd.ntmps8
  go_wp2_with fail
  go_loopg [5, 6] l.length (fun g te ti wr => ∃ j : Nat, j ≤ l.length ∧ j ≤ g ∧ ti = .int .i64 ((j : Int) - 1) ∧ IsEr wr te (chainE ((a0 : Int) + 1) (l.drop j)) ∧ Up w wr)
  case atStart =>
    refine ⟨l.length, Nat.le_refl _, Nat.le_refl _, rfl, ?_, Up.refl _⟩
    rw [List.drop_length]
    rfl
  case round =>
    obtain ⟨j, hj, hjg, rfl, hE, hu⟩ := hrel
    obtain ⟨te, ue, rfl⟩ := hE.iface
    have HE := hid hE
    clear hE
    cases j with
    | zero =>
      go_wp2_with fail
      go_ret
      exact ⟨_, rfl, hu, HE.out⟩
    | succ j =>
      have ej : (((j + 1 : Nat) : Int) - 1) = (j : Int) := by omega
      rw [ej]
      obtain ⟨a, rfl, hcell⟩ := HC.out j hj
      have hcell' := hu.cellEq hcell
      go_wp2_with (first | (go_at_call 15; (with_reducible refine (wrap_any (op := nth l j) HE.out).mono ?_); rintro r w3 ⟨u3, rfl, hu3, hE3⟩))
      go_roundg j
      case measure => omega
      case rel => exact ⟨j, by omega, Nat.le_refl _, rfl, by rw [drop_at hj]; exact hE3, hu.trans hu3⟩
end Go.Proofs.YtkhcegpmgejblaaDoor
