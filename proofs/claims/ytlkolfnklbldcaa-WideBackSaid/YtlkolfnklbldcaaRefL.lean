/-
  The reference's wide numbers out of whole ones.
-/
import Derived.Test.YtlkolfnklbldcaaRefK
import Derived.Laws.CopyOwn
namespace Go.Proofs.Ytlkolfnklbldcaa
open Go Go.RowKit
set_option maxRecDepth 100000

theorem blen_small {x : Nat} (h : x < hb) : blen x < 1024 := by
  obtain ⟨c, hc⟩ : ∃ c, c = 1023 := ⟨_, rfl⟩
  rw [hb_pow c hc] at h
  rcases Nat.lt_or_ge (blen x) 1024 with h1 | h1
  · exact h1
  · have h0 : x ≠ 0 := fun e => by subst e; simp [blen] at h1
    have h2 := blen_le h0
    have h3 : 2 ^ c ≤ 2 ^ (blen x - 1) := Nat.pow_le_pow_right (by decide) (by omega)
    omega
theorem blen_mid {x : Nat} (h1 : hb ≤ x) (h2 : x < bp 16) : blen x = 1024 := by
  obtain ⟨c, hc⟩ : ∃ c, c = 1023 := ⟨_, rfl⟩
  have h3 := bp16
  rw [hb_pow c hc] at h1 h3
  have := blen_of (x := x) (k := c) h1 (by rw [Nat.pow_succ]; omega)
  omega
theorem blen_over {x : Nat} (h : bp 16 ≤ x) : 1024 < blen x := by
  obtain ⟨c, hc⟩ : ∃ c, c = 1024 := ⟨_, rfl⟩
  have h3 := bp_two 16
  rw [show 64 * 16 = c by omega] at h3
  rw [h3] at h
  rcases Nat.lt_or_ge 1024 (blen x) with h1 | h1
  · exact h1
  · have h2 := blen_lt x
    have h4 : 2 ^ blen x ≤ 2 ^ c := Nat.pow_le_pow_right (by decide) (by omega)
    omega
theorem wp_copy {K : Act → World → Prop} {Q : Exit → Act → World → Prop} {a : Act} {w : World} {o : Oper} {d s : Operand} {x g c : Nat} {sp : Option Addr} (hgd : o.guard = none) (ho : o.op = .call { callee := .builtin .copy, args := #[d, s], argTypes := #[22, 22] })
    (hd : a.eval d = .slice (some ⟨g, 0, none⟩) 16 16) (hs : a.eval s = .slice sp (nl x) c) (hA : Am w (.slice sp (nl x) c) x) (hx : nl x ≤ 16) (hg : Row w g 27 16 (fun _ => 0))
    (h : ∀ w', Row w' g 27 16 (limb x) → Below g w w' → K (a.put o.dst (goInt (nl x))) w') : o.wp Try.prog a w K Q := by
  obtain ⟨a', c', he, hc, hC⟩ := hA
  obtain ⟨rfl, rfl⟩ : sp = a' ∧ c = c' := by simpa using he
  have hlen : ((cells 16 (limb x)).toList.take (nl x)).length = nl x := by simp [cells_size]; omega
  have hiU : (Try.prog.info? 25).map (·.size) = some 1 := by
    have := infoU
    cases hq : Try.prog.info? 25 with
    | none => rw [hq] at this; simp at this
    | some i =>
      rw [hq] at this
      simp only [Option.map_some, Option.some.injEq, Prod.mk.injEq] at this
      simp [this.2.1]
  have hcs : ∀ j v, ((cells 16 (limb x)).toList.take (nl x))[j]? = some v → j < nl x ∧ v = .int .u64 (limb x j : Nat) := fun j v hj => by
    have h1 : j < nl x := by
      have := (List.getElem?_eq_some_iff.1 hj).1
      rw [hlen] at this
      exact this
    rw [List.getElem?_take_of_lt h1, Array.getElem?_toList, cells_get 16 _ j (by omega)] at hj
    cases hj
    exact ⟨h1, rfl⟩
  have hst := step_copy_splice (P := Try.prog) (ops := #[]) (o := o) (a := a) (w := w) (K := K) (Q := Q) (E := True) hgd d s 22 22 ho 25 undS hiU (some ⟨g, 0, none⟩) sp 16 16 (nl x) c hd hs g 0 (cells 16 (fun _ => 0)).toList 27 hg ((cells 16 (limb x)).toList.take (nl x)) (by rw [hlen]; exact (Nat.min_eq_left hx).symm)
    (fun h0 => by
      rw [hlen] at h0
      obtain ⟨b, C, rfl, hB, hC'⟩ := hC h0
      refine ⟨rfl, _, rfl, fun j v hj => ?_⟩
      obtain ⟨h1, rfl⟩ := hcs j v hj
      have hadd : (⟨b, 0, none⟩ : Addr).add j = ⟨b, j, none⟩ := by unfold Addr.add; split <;> simp_all
      rw [hadd]
      exact hB.cell j (hC' j h1))
    (by rw [hlen]; simp [cells_size]; omega)
    (fun v hv => by
      obtain ⟨j, hj⟩ := List.mem_iff_getElem?.1 hv
      obtain ⟨_, rfl⟩ := hcs j v hj
      rfl) g w (Below.refl _ _) (Nat.le_refl _)
    (fun w' h1 h2 => by
      rw [hlen]
      refine h w' ?_ h2
      have h3 := h1.out
      unfold Row Blk
      rw [h3]
      congr 2
      apply Array.ext
      · rw [List.size_toArray, length_splice _ _ _ (by rw [hlen]; simp [cells_size]; omega)]; simp [cells_size]
      · intro i hi1 hi2
        rw [cells_size] at hi2
        have e1 : (splice (cells 16 (fun _ => 0)).toList 0 ((cells 16 (limb x)).toList.take (nl x)))[i]? = some (.int .u64 (limb x i : Nat)) := by
          unfold splice
          rw [hlen, List.take_zero, List.nil_append, Nat.zero_add]
          by_cases hin : i < nl x
          · rw [List.getElem?_append_left (by rw [hlen]; exact hin), List.getElem?_take_of_lt hin, Array.getElem?_toList, cells_get 16 _ i hi2]
          · rw [List.getElem?_append_right (by rw [hlen]; omega), hlen, List.getElem?_drop, Array.getElem?_toList, show nl x + (i - nl x) = i by omega, cells_get 16 _ i hi2, limb_nl (by omega)]
        have e2 := cells_get 16 (limb x) i hi2
        have e3 : (splice (cells 16 (fun _ => 0)).toList 0 ((cells 16 (limb x)).toList.take (nl x))).toArray[i]? = (cells 16 (limb x))[i]? := by rw [e2, List.getElem?_toArray, e1]
        rw [Array.getElem?_eq_getElem hi1, Array.getElem?_eq_getElem (by rw [cells_size]; exact hi2)] at e3
        exact Option.some.inj e3)
  rw [if_pos (by simp [Region.wanted, hgd])] at hst
  exact hst
end Go.Proofs.Ytlkolfnklbldcaa
