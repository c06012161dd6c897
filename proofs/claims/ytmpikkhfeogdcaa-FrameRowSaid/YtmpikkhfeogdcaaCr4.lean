/-
  Checksums: what comes in; parts of a slice; any bytes, wherever they are parted (CrcTells).
-/
import Derived.Test.YtmpikkhfeogdcaaCr3
import Derived.Test.YtmpikkhfeogdcaaRelG
import Derived.OpenShut
import Derived.DataShut
namespace Go.Proofs.Ytmpikkhfeogdcaa
open Go Go.RowKit
set_option maxRecDepth 100000

theorem gUp {w w' : World} (h : Up w w' := by assumption) : Up w w' := h
theorem leavesR_up {P : Program} {R : Value → World → Prop} {w w' : World} {r : Result Next} {u : Value} (h : r = .ok (.value u) w') (hu : Up w w') (hR : R u w') : LeavesR P R w r := by subst h; exact ⟨hR, hu⟩
theorem wf_nat {k : IntKind} {z : Int} {m : Nat} (h : (Lit.int k z).wf = true) (h0 : k.min = 0) (h1 : k.max = (m : Int)) : ∃ n : Nat, z = (n : Int) ∧ n < m + 1 := by
  have := (Lit.wf_int_iff k z).1 h
  exact ⟨z.toNat, by omega, by omega⟩
/-- What came in reads as bytes. -/
theorem bw_in {w : World} {a : Option Addr} {len cap : Nat} {zs : List Int} (h : (a = none ∧ len = 0 ∧ cap = 0 ∧ zs = []) ∨
    ∃ x, a = some x ∧ len ≤ cap ∧ cap ≤ maxLen ∧ zs.length = cap ∧ (∀ i, i < zs.length → w.cell? (x.add i) = some (.int .u8 (zs.getD i 0))) ∧ ∀ n ∈ zs, (Lit.int .u8 n).wf = true) (h8 : len ≤ 1000) :
    ∃ l : List Nat, l.length = len ∧ Bw w (.slice a l.length cap) l := by
  rcases h with ⟨rfl, rfl, rfl, rfl⟩ | ⟨x, rfl, h1, h2, h3, h4, h5⟩
  · exact ⟨[], rfl, Bw.nil fun _ => rfl⟩
  · have hl : ((zs.take len).map Int.toNat).length = len := by rw [List.length_map, List.length_take]; omega
    have hb : ∀ n ∈ zs, 0 ≤ n ∧ n < 256 := fun n hn => by
      obtain ⟨k, rfl, hk⟩ := wf_nat (m := 255) (h5 n hn) IntKind.min_u8 IntKind.max_u8
      omega
    refine ⟨(zs.take len).map Int.toNat, hl, _, _, rfl, ⟨by rw [hl]; exact h1, fun e => by cases e⟩, ⟨by rw [hl]; exact h8, fun y hy => ?_⟩, fun i hi => ⟨x, rfl, ?_⟩⟩
    · obtain ⟨n, hn, rfl⟩ := List.mem_map.1 hy
      have := hb n (List.mem_of_mem_take hn)
      omega
    · rw [hl] at hi
      rw [h4 i (by omega)]
      have hz : i < zs.length := by omega
      have e : ((zs.take len).map Int.toNat).getD i 0 = (zs.getD i 0).toNat := by
        rw [List.getD_eq_getElem?_getD, List.getElem?_map, List.getElem?_take_of_lt hi, List.getElem?_eq_getElem hz, List.getD_eq_getElem?_getD, List.getElem?_eq_getElem hz]
        rfl
      rw [e]
      have := hb (zs.getD i 0) (by rw [List.getD_eq_getElem?_getD, List.getElem?_eq_getElem hz]; exact List.getElem_mem hz)
      rw [Int.toNat_of_nonneg this.1]
theorem add_add (a : Addr) (i j : Nat) : (a.add i).add j = a.add (i + j) := by
  unfold Addr.add
  by_cases hi : i = 0 <;> by_cases hj : j = 0 <;> simp [hi, hj, Nat.add_assoc]
theorem Bw.take {w : World} {p : Option Addr} {n cap : Nat} {l : List Nat} (hn : l.length = n) (h : Bw w (.slice p n cap) l) {i : Nat} (hi : i ≤ n) : Bw w (.slice p i cap) (l.take i) := by
  obtain ⟨p', cap', e, hcap, hb, hc⟩ := h
  injection e with e1 e2 e3
  subst e1 e3
  have hl : (l.take i).length = i := by rw [List.length_take]; omega
  refine ⟨p, cap, by rw [hl], ⟨by omega, hcap.2⟩, ⟨by omega, fun x hx => hb.2 x (List.mem_of_mem_take hx)⟩, fun j hj => ?_⟩
  rw [hl] at hj
  rw [show (l.take i).getD j 0 = l.getD j 0 from by rw [List.getD_eq_getElem?_getD, List.getElem?_take_of_lt hj, List.getD_eq_getElem?_getD]]
  exact hc j (by omega)
/-- Where a slice begins, from i on. -/
def fromP (p : Option Addr) (cap i : Nat) : Option Addr := if cap = i then p else p.map (·.add i)
theorem Bw.drop {w : World} {p : Option Addr} {n cap : Nat} {l : List Nat} (hn : l.length = n) (h : Bw w (.slice p n cap) l) {i : Nat} (hi : i ≤ n) : Bw w (.slice (fromP p cap i) (n - i) (cap - i)) (l.drop i) := by
  obtain ⟨p', cap', e, hcap, hb, hc⟩ := h
  injection e with e1 e2 e3
  subst e1 e3
  unfold fromP
  have hl : (l.drop i).length = n - i := by rw [List.length_drop, hn]
  refine ⟨_, cap - i, by rw [hl], ⟨by omega, fun e => ?_⟩, ⟨by omega, fun x hx => hb.2 x (List.mem_of_mem_drop hx)⟩, fun j hj => ?_⟩
  · by_cases h0 : cap = i
    · omega
    · rw [if_neg h0] at e
      cases p with
      | none => have := hcap.2 rfl; omega
      | some a => cases e
  · rw [hl] at hj
    obtain ⟨a, rfl, h1⟩ := hc (i + j) (by omega)
    rw [if_neg (by omega), show (l.drop i).getD j 0 = l.getD (i + j) 0 from by rw [List.getD_eq_getElem?_getD, List.getElem?_drop, List.getD_eq_getElem?_getD]]
    exact ⟨_, rfl, by rw [add_add]; exact h1⟩
theorem run_to {ev : Operand → Value} {w : World} {d : Option Tmp} {s k : Tmp} {ty : TypeId} {pos : String} {af : Array Edge} {gd : Option (Nat × Bool)} {p : Option Addr} {n c i : Nat} (hi : i ≤ n) (hc : n ≤ c) (hx : ev (.tmp s) = .slice p n c) (hk : ev (.tmp k) = .int .i64 (i : Int)) :
    (execOp ev { dst := d, op := .slice 22 (.tmp s) none (some (.tmp k)) none, type := ty, pos := pos, after := af, guard := gd }).run Try.prog w = .ok (.value (.slice p i c)) w := by
  go_simp
  intro h
  omega
theorem run_from {ev : Operand → Value} {w : World} {d : Option Tmp} {s k : Tmp} {ty : TypeId} {pos : String} {af : Array Edge} {gd : Option (Nat × Bool)} {p : Option Addr} {n c i : Nat} (hi : i ≤ n) (hx : ev (.tmp s) = .slice p n c) (hk : ev (.tmp k) = .int .i64 (i : Int)) :
    (execOp ev { dst := d, op := .slice 22 (.tmp s) (some (.tmp k)) none none, type := ty, pos := pos, after := af, guard := gd }).run Try.prog w = .ok (.value (.slice (fromP p c i) (n - i) (c - i))) w := by
  unfold fromP
  go_simp
end Go.Proofs.Ytmpikkhfeogdcaa
