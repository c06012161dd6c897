/-
  fault.Ops: the Ops of the faults that wrap one another, outermost first.
-/
import Derived.Test.YtkhcegpmgejblaaDoorEO
import Derived.Laws.AppendOwn
import Derived.Laws.OwnMore
namespace Go.Proofs.YtkhcegpmgejblaaDoor
open Go Go.RowKit
set_option maxRecDepth 100000
set_option maxRecDepth 100000

theorem undSS : Tryd.prog.underlying 22 = some (.slice 9) := by kernel_rfl
theorem infoStr : (Tryd.prog.info? 9).map (fun i => (i.zero, i.size, i.bytes)) = some (some (.string { data := #[] }), 1, 16) := by kernel_rfl
theorem appSP {ops : Array Oper} {rest : List Oper} {Q : Exit → Act → World → Prop} {a : Act} {w : World} {d : Option Tmp} {s u : Tmp} {ty : TypeId} {pos : String} {af : Array Edge} {b n base : Nat} {v : Value} {xs : List Value} {op : ByteArray}
    (hs : a.eval (.tmp s) = v) (hu : a.eval (.tmp u) = .slice (some ⟨b, 0, none⟩) 1 1) (hB : w.cell? ⟨b, 0, none⟩ = some (.string op)) (hown : w.ownsRow base 9 1 v n xs) (hbase : base ≤ w.heap.size) (hn : n < 1000000)
    (h : ∀ v' w', w'.ownsRow base 9 1 v' (n + 1) (xs ++ [.string op]) → Below base w w' → wpList Tryd.prog ops Q rest (a.put d v') w') :
    wpList Tryd.prog ops Q ({ dst := d, op := .call { callee := .builtin .append, args := #[.tmp s, .tmp u], argTypes := #[22, 22] }, type := ty, pos := pos, after := af, guard := none } :: rest) a w := by
  obtain ⟨i0, hi0, he⟩ := Option.map_eq_some_iff.1 infoStr
  simp only [Prod.mk.injEq] at he
  have hlt := hown.lt
  refine wpList_append_own w rfl _ _ 22 rfl base 9 i0 (.string { data := #[] }) 1 16 undSS hi0 he.1 he.2.1 he.2.2 rfl (by decide) v n xs hs hown ⟨b, 0, none⟩ 1 1 [.string op] hu rfl ?_ ?_ (by unfold maxLen; omega) (by omega) hbase ?_
  · intro j x hj
    cases j with
    | zero => simp only [List.getElem?_cons_zero, Option.some.injEq] at hj; subst hj; exact hB
    | succ j => simp at hj
  · intro x hx; simp at hx; subst hx; rfl
  · intro v' w' h1 h2 _
    refine h v' w' h1 ⟨h2.os, h2.tape, h2.output, h2.size, fun k hk => h2.block k (by omega) ?_⟩
    intro e
    have := hlt k e.symm
    omega
theorem _root_.Go.World.ownsRow.up {w w' : World} {base : Nat} {e : TypeId} {size : Nat} {v : Value} {n : Nat} {xs : List Value} (h : w.ownsRow base e size v n xs) (hu : Up w w') : w'.ownsRow base e size v n xs := by
  refine ⟨h.1, ?_⟩
  rcases h.2 with h2 | ⟨g, cap, cur, h1, h2, h3, h4⟩
  · exact .inl h2
  · exact .inr ⟨g, cap, cur, h1, h2, hu.row h3, h4⟩
set_option maxHeartbeats 4000000 in
theorem ops_any {e : Er} {v : Value} {w : World} (h : IsEr w v e) (hn : e.ops.length < 1000000) :
    Calls Tryd.prog 13 #[v] w fun r w' => ∃ s, r = .returned s ∧ Up w w' ∧ w'.ownsRow w.heap.size 9 1 s e.ops.length (e.ops.map Value.string) := by
  have HO := hid (fun w' (hu : Up w w') => out_any h hu)
  obtain ⟨l, hl⟩ : ∃ l, e.ops = l := ⟨_, rfl⟩
  rw [hl] at HO hn ⊢
  clear h hl
  go_enter Tryd.func13, Tryd.ntmps13
  go_wp2_with (first | (go_at_call 23; (with_reducible refine (HO.out _ (Up.refl _)).mono ?_); rintro r wA ⟨p, rfl, huA, hA⟩))
  go_loopg [3, 4] l.length (fun k ts tp wr => ∃ d r : List ByteArray, d ++ r = l ∧ r.length ≤ k ∧ wr.ownsRow w.heap.size 9 1 ts d.length (d.map Value.string) ∧ Out w tp r ∧ Up w wr)
  case atStart => exact ⟨[], l, rfl, Nat.le_refl _, World.ownsRow_nil _ _ _ _, hA, huA⟩
  case round =>
    clear hA huA
    obtain ⟨d, r, hdr, hrk, hown, hO, hu⟩ := hrel
    cases r with
    | nil =>
      simp only [Out] at hO
      subst hO
      rw [List.append_nil] at hdr
      subst hdr
      have HW := hid hown
      clear hown
      go_wp2_with fail
      go_ret
      exact ⟨_, rfl, hu, HW.out⟩
    | cons op r =>
      obtain ⟨b, u, rfl, hB, h3⟩ := hO
      have hsz := hu.size
      have hc0 := (hB.up hu).cell 0 rfl
      have hdl : d.length + (r.length + 1) = l.length := by rw [← hdr]; simp
      have hr1 : r.length + 1 ≤ gk := hrk
      have HDR := hid (show (d ++ [op]) ++ r = l by rw [← hdr]; simp)
      clear hdr hrk
      rcases h3 with ⟨rfl, rfl⟩ | ⟨x, hx, rfl⟩
      · go_wp2_with (first | ((with_reducible apply appSP (op := op)); exact rfl; exact rfl; (focus (simp; done)); exact hown.alloc _; (focus (simp; omega)); omega; rintro v' w' h1 h2; have hu2 : Up w w' := Below.trans (hu.trans (Up.alloc _ _)) h2; have hc1 := (hB.up hu2).cell 1 rfl) | (go_at_call 23; (with_reducible refine (out_nil _).mono ?_); rintro r wB ⟨rfl, huB⟩))
        go_roundg 0
        case measure => omega
        case rel => exact ⟨d ++ [op], [], HDR.out, Nat.le_refl _, by simpa using h1.up huB, rfl, hu2.trans huB⟩
      · have HO2 := hid (fun w' (hu : Up w w') => out_any hx hu)
        go_wp2_with (first | ((with_reducible apply appSP (op := op)); exact rfl; exact rfl; (focus (simp; done)); exact hown.alloc _; (focus (simp; omega)); omega; rintro v' w' h1 h2; have hu2 : Up w w' := Below.trans (hu.trans (Up.alloc _ _)) h2; have hc1 := (hB.up hu2).cell 1 rfl) | (go_at_call 23; (with_reducible refine (HO2.out _ hu2).mono ?_); rintro r wB ⟨p, rfl, huB, hOB⟩))
        go_roundg x.ops.length
        case measure => omega
        case rel => exact ⟨d ++ [op], x.ops, HDR.out, Nat.le_refl _, by simpa using h1.up huB, hOB, hu2.trans huB⟩
end Go.Proofs.YtkhcegpmgejblaaDoor
