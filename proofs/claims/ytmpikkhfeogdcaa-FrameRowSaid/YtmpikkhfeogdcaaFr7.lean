/-
  Frames: bytes as strings; lists held against one another; the example that the statements know.
-/
import Derived.Test.YtmpikkhfeogdcaaFr6
import Derived.Laws.BytesString
import Derived.Laws.BytesArg
import Derived.OwnWalk
namespace Go.Proofs.Ytmpikkhfeogdcaa
open Go Go.RowKit
set_option maxRecDepth 100000

/-- Bytes as a string. -/
def strB (l : List Nat) : ByteArray := strOfNums (l.map fun (x : Nat) => (x : Int))
theorem conv_str {w : World} {v : Value} {l : List Nat} (h : Bw w v l) : (convert 22 9 v).run Try.prog w = .ok (.string (strB l)) w := by
  obtain ⟨p, cap, rfl, hcap, hb, hc⟩ := h
  have u1 : Try.prog.underlying 22 = some (.slice 5) := undU
  have u2 : Try.prog.underlying 5 = some (.int .u8) := by kernel_rfl
  have u3 : Try.prog.underlying 9 = some .string := by kernel_rfl
  cases p with
  | none =>
    have h0 : l.length = 0 := by
      rcases Nat.eq_zero_or_pos l.length with h0 | h0
      · exact h0
      · obtain ⟨a, h1, _⟩ := hc 0 h0; cases h1
    obtain rfl := List.length_eq_zero_iff.1 h0
    rw [run_convert_bytes_nil w _ _ u1 u2 _ _ _ u3]
    rfl
  | some a =>
    have hl : (loadCells a l.length).run Try.prog w = .ok ((l.map fun (x : Nat) => (x : Int)).map (Value.int .u8)).toArray w := by
      have := run_loadCells_list (P := Try.prog) w a (valU l) (fun j v hj => by
        have hjl : j < l.length := by
          have := (List.getElem?_eq_some_iff.1 hj).1
          unfold valU at this
          simpa using this
        obtain ⟨a', e, h2⟩ := hc j hjl
        injection e with e
        subst e
        rw [valU_get hjl] at hj
        rw [h2]
        exact hj)
      rw [show (valU l).length = l.length from by unfold valU; rw [List.length_map]] at this
      rw [this]
      congr 1
      unfold valU
      rw [List.map_map]
      rfl
    rw [run_convert_bytes_string w _ _ _ _ _ _ u1 u2 u3, run_bytesToString w a l.length cap _ hl, foldl_push_bytes]
    unfold strB strOfNums
    simp [ByteArray.empty, ByteArray.emptyWithCapacity]
    rfl
theorem run_cv {ev : Operand → Value} {w : World} {d : Option Tmp} {s : Operand} {ty : TypeId} {pos : String} {af : Array Edge} {gd : Option (Nat × Bool)} {v : Value} {l : List Nat} (hx : ev s = v) (h : Bw w v l) :
    (execOp ev { dst := d, op := .convert 22 9 s, type := ty, pos := pos, after := af, guard := gd }).run Try.prog w = .ok (.value (.string (strB l))) w := by
  subst hx
  have := conv_str h
  unfold execOp
  simp [this, Result.andThen]
/-- The entries of a list. -/
theorem Lw.at {R : World → Value → List Nat → Prop} {w : World} {v : Value} {ls : List (List Nat)} (h : Lw R w v ls) {n : Nat} (hn : ls.length = n) : ∃ p c, v = .slice p n c ∧ n ≤ c ∧ ∀ i, i < n → ∃ a q m k, p = some a ∧ w.cell? (a.add i) = some (.slice q m k) ∧ R w (.slice q m k) (ls.getD i []) := by
  subst hn
  obtain ⟨p, cap, e, hc, _, h2⟩ := h
  exact ⟨p, cap, e, hc.1, h2⟩
set_option maxHeartbeats 1000000 in
theorem lists_any {w : World} {v x : Value} {ls : List (List Nat)} (h1 : Lw Bw w v ls) (h2 : Lw Bw w x ls) : Calls Try.prog 14 #[v, x] w fun e w' => e = .returned (.bool true) ∧ Up w w' := by
  have h1000 : ls.length ≤ 1000 := by obtain ⟨_, _, _, _, h, _⟩ := h1; exact h
  obtain ⟨n, hn⟩ : ∃ n, ls.length = n := ⟨_, rfl⟩
  rw [hn] at h1000
  obtain ⟨p, c, rfl, hc, h1⟩ := h1.at hn
  obtain ⟨q, k, rfl, hk, h2⟩ := h2.at hn
  have H1 := hid h1
  have H2 := hid h2
  clear h1 h2 hn
  go_enter Try.func14, Try.ntmps14
  go_wp2_with fail
  go_loopg [5] n (fun gg ti wr => ∃ j : Nat, j ≤ n ∧ n - j ≤ gg ∧ ti = .int .i64 (j : Nat) ∧ Up w wr)
  case atStart => exact ⟨0, Nat.zero_le _, Nat.le_refl _, rfl, Up.refl _⟩
  case round =>
    obtain ⟨j, hj, hjg, rfl, hur⟩ := hrel
    by_cases hlt : j < n
    · have ei : IntKind.i64.wrap ((j : Int) + 1) = (j : Int) + 1 := IntWalk.i64_in _ (by omega)
      obtain ⟨a, ra, m1, k1, rfl, hc1, hB1⟩ := H1.out j hlt
      obtain ⟨b, rb, m2, k2, rfl, hc2, hB2⟩ := H2.out j hlt
      have HB1 := hid hB1
      have HB2 := hid hB2
      clear hB1 hB2 H1 H2 h1 h2
      generalize ls.getD j [] = l at *
      go_wp2_with fail
      refine wp_region_sp (n := 28) 11 [17, 18, 19, 20, 21, 22, 23, 24, 25, 26, 27] [SP.is (.slice (some a) n c), SP.is (.int .i64 (j : Int)), SP.is (.pointer (some (a.add j))), SP.is (.slice ra m1 k1), SP.is (.string (strB l)), SP.is (.slice (some b) n k), SP.is (.int .i64 (j : Int)), SP.is (.pointer (some (b.add j))), SP.is (.slice rb m2 k2), SP.is (.string (strB l)), SP.is (.bool false)] (fun wq => Up w wq ∧ Below w.heap.size w wq) (by kernel_rfl) (by rfl) (by kernel_rfl) (by kernel_rfl) (fun _ _ h hu => ⟨(h.1).trans hu, below_up (h.2) hu⟩) ⟨(by first | exact Up.refl _ | assumption), gUp⟩ (fun ev w9 hS9 i o hne hi hev => ?_) (fun gR wE hq hSE huE => ?_)
      · have ⟨hS1, hSB⟩ := hS9
        have hcC := hev.const
        have hcF := hev.func
        have hcG := hev.global
        rcases i with _ | _ | _ | _ | _ | _ | _ | _ | _ | _ | _ | i
        · obtain rfl := Option.some.inj (show some _ = some o from hi)
          have e0 := hev.other 0 (by kernel_rfl)
          simp [Act.eval] at e0
          exact leavesR_value (u := .slice (some a) n c) (by first | (go_simp; done) | (go_simp; exact rfl)) rfl
        · obtain rfl := Option.some.inj (show some _ = some o from hi)
          have e5 := hev.other 5 (by kernel_rfl)
          simp [Act.eval] at e5
          exact leavesR_value (u := .int .i64 (j : Int)) (by first | (go_simp; done) | (go_simp; exact rfl)) rfl
        · obtain rfl := Option.some.inj (show some _ = some o from hi)
          have e17 : ev (.tmp 17) = (.slice (some a) n c) := hev.dep 0 17 (by kernel_rfl)
          have e18 : ev (.tmp 18) = (.int .i64 (j : Int)) := hev.dep 1 18 (by kernel_rfl)
          exact leavesR_value (u := .pointer (some (a.add j))) (by first | (go_simp; done) | (go_simp; exact rfl)) rfl
        · obtain rfl := Option.some.inj (show some _ = some o from hi)
          have e19 : ev (.tmp 19) = (.pointer (some (a.add j))) := hev.dep 2 19 (by kernel_rfl)
          have hc9 := hS1.cell hc1; exact leavesR_value (u := .slice ra m1 k1) (by go_simp) rfl
        · obtain rfl := Option.some.inj (show some _ = some o from hi)
          have e20 : ev (.tmp 20) = (.slice ra m1 k1) := hev.dep 3 20 (by kernel_rfl)
          exact leavesR_value (run_cv e20 (HB1.out.up hS1)) rfl
        · obtain rfl := Option.some.inj (show some _ = some o from hi)
          have e1 := hev.other 1 (by kernel_rfl)
          simp [Act.eval] at e1
          exact leavesR_value (u := .slice (some b) n k) (by first | (go_simp; done) | (go_simp; exact rfl)) rfl
        · obtain rfl := Option.some.inj (show some _ = some o from hi)
          have e5 := hev.other 5 (by kernel_rfl)
          simp [Act.eval] at e5
          exact leavesR_value (u := .int .i64 (j : Int)) (by first | (go_simp; done) | (go_simp; exact rfl)) rfl
        · obtain rfl := Option.some.inj (show some _ = some o from hi)
          have e22 : ev (.tmp 22) = (.slice (some b) n k) := hev.dep 5 22 (by kernel_rfl)
          have e23 : ev (.tmp 23) = (.int .i64 (j : Int)) := hev.dep 6 23 (by kernel_rfl)
          exact leavesR_value (u := .pointer (some (b.add j))) (by first | (go_simp; done) | (go_simp; exact rfl)) rfl
        · obtain rfl := Option.some.inj (show some _ = some o from hi)
          have e24 : ev (.tmp 24) = (.pointer (some (b.add j))) := hev.dep 7 24 (by kernel_rfl)
          have hc9 := hS1.cell hc2; exact leavesR_value (u := .slice rb m2 k2) (by go_simp) rfl
        · obtain rfl := Option.some.inj (show some _ = some o from hi)
          have e25 : ev (.tmp 25) = (.slice rb m2 k2) := hev.dep 8 25 (by kernel_rfl)
          exact leavesR_value (run_cv e25 (HB2.out.up hS1)) rfl
        · obtain rfl := Option.some.inj (show some _ = some o from hi)
          have e21 : ev (.tmp 21) = (.string (strB l)) := hev.dep 4 21 (by kernel_rfl)
          have e26 : ev (.tmp 26) = (.string (strB l)) := hev.dep 9 26 (by kernel_rfl)
          exact leavesR_value (u := .bool false) (by first | (go_simp; done) | (go_simp; exact rfl)) rfl
        · exact absurd (show i + 11 < 11 from (Array.getElem?_eq_some_iff.1 hi).1) (by omega)
      have ⟨hS1, hSB⟩ := hSE
      have q0 : gR 17 = (.slice (some a) n c) := hq 0 17 (by decide) (by kernel_rfl)
      have q1 : gR 18 = (.int .i64 (j : Int)) := hq 1 18 (by decide) (by kernel_rfl)
      have q2 : gR 19 = (.pointer (some (a.add j))) := hq 2 19 (by decide) (by kernel_rfl)
      have q3 : gR 20 = (.slice ra m1 k1) := hq 3 20 (by decide) (by kernel_rfl)
      have q4 : gR 21 = (.string (strB l)) := hq 4 21 (by decide) (by kernel_rfl)
      have q5 : gR 22 = (.slice (some b) n k) := hq 5 22 (by decide) (by kernel_rfl)
      have q6 : gR 23 = (.int .i64 (j : Int)) := hq 6 23 (by decide) (by kernel_rfl)
      have q7 : gR 24 = (.pointer (some (b.add j))) := hq 7 24 (by decide) (by kernel_rfl)
      have q8 : gR 25 = (.slice rb m2 k2) := hq 8 25 (by decide) (by kernel_rfl)
      have q9 : gR 26 = (.string (strB l)) := hq 9 26 (by decide) (by kernel_rfl)
      have q10 : gR 27 = (.bool false) := hq 10 27 (by decide) (by kernel_rfl)
      refine ⟨fun _ => ?_, fun o ho => by simp at ho⟩
      simp only [putL, List.map_cons, List.map_nil, q0, q1, q2, q3, q4, q5, q6, q7, q8, q9, q10, Act.put, pu1, pu2, pu3]
      clear hq hSE q0 q1 q2 q3 q4 q5 q6 q7 q8 q9 q10
      go_wp2_with fail
      go_roundg (n - (j + 1))
      case measure => omega
      case rel => exact ⟨j + 1, by omega, Nat.le_refl _, rfl, hS1⟩
    · obtain rfl : j = n := by omega
      clear hlt hj
      go_wp2_with fail
      go_ret
      exact ⟨rfl, hur⟩
end Go.Proofs.Ytmpikkhfeogdcaa
