/-
  fx: roots.
-/
import Derived.Test.YtiocolbaencbkaaFx
import Derived.Test.YtiocolbaencbkaaShift
namespace Go.Proofs.Ytiocolbaencbkaa
open Go Go.RowKit
set_option maxRecDepth 100000

/-- A double's halves. -/
def dc (n : Nat) : Array Value := #[.int .u64 (n / 18446744073709551616 : Nat), .int .u64 (n % 18446744073709551616 : Nat)]
def dbl (n : Nat) : Value := .agg (dc n)
theorem dbl_of {n h l : Nat} (eh : n / 18446744073709551616 = h) (el : n % 18446744073709551616 = l) : dbl n = .agg #[.int .u64 h, .int .u64 l] := by
  unfold dbl dc; rw [eh, el]
theorem undD0 : (match Try.prog.underlying 96 with | some (.struct _) => true | _ => false) = true := by kernel_rfl
theorem undD : ∃ fs, Try.prog.underlying 96 = some (.struct fs) := by
  have h := undD0
  split at h
  · exact ⟨_, by assumption⟩
  · cases h
theorem infoD : (Try.prog.info? 96).map (·.size) = some 2 := by kernel_rfl
def DRow (w : World) (b n : Nat) : Prop := Blk w b 96 (dc n)
theorem DRow.up {w w' : World} {b n : Nat} (h : DRow w b n) (hu : Up w w') : DRow w' b n := Blk.up h hu
theorem DRow.lt {w : World} {b n : Nat} (h : DRow w b n) : b < w.heap.size := Blk.lt h
theorem DRow.frozen {w : World} {b n : Nat} (h : DRow w b n) (i : Nat) : w.frozen? ⟨b, i, none⟩ = false := Blk.frozen h i
theorem DRow.high {w : World} {b n : Nat} (h : DRow w b n) : w.cell? ⟨b, 0, none⟩ = some (.int .u64 (n / 18446744073709551616 : Nat)) := Blk.cell h 0 rfl
theorem DRow.setRow {w : World} {b n : Nat} (h : DRow w b n) (m : Nat) : DRow (w.setRow b (dc m)) b m := Blk.setRow h _
theorem DRow.row_other {w : World} {b c n : Nat} {D : Array Value} (h : DRow w b n) (hb : b ≠ c) : DRow (w.setRow c D) b n := Blk.row_other h D hb
theorem drow_new {w : World} {b n : Nat} (h : b = w.heap.size) : DRow (w.alloc (.cells (dc n) 96)) b n := Blk.new _ _ h
theorem drow_newz {w : World} {b : Nat} (h : b = w.heap.size) : DRow (w.alloc (.cells #[.int .u64 0, .int .u64 0] 96)) b 0 := Blk.new _ _ h
theorem drow_same {w : World} {b n m : Nat} (h : DRow w b n) : DRow (w.setRow b (dc m)) b m := h.setRow m
theorem drow_else {w : World} {b c n : Nat} {D : Array Value} (hb : b ≠ c) (h : DRow w b n) : DRow (w.setRow c D) b n := h.row_other hb
theorem drow_alloc {w : World} {b n : Nat} {o : Obj} (h : DRow w b n) : DRow (w.alloc o) b n := h.up (Up.alloc _ _)
theorem drow_up {w w' : World} {b n : Nat} (hu : Up w w') (h : DRow w b n) : DRow w' b n := h.up hu
section
variable {ops : Array Oper} {rest : List Oper} {Q : Exit → Act → World → Prop} {a : Act} {w : World} {d : Option Tmp} {s u : Tmp} {ty : TypeId} {pos : String} {af : Array Edge} {g n : Nat}
theorem ld_D (hx : a.eval (.tmp s) = .pointer (some ⟨g, 0, none⟩)) (hC : DRow w g n) (h : wpList Try.prog ops Q rest (a.put d (dbl n)) w) :
    wpList Try.prog ops Q ({ dst := d, op := .load 96 (.tmp s), type := ty, pos := pos, after := af, guard := none } :: rest) a w :=
  undD.elim fun _ hu => wpList_load_row rfl _ _ rfl g hx _ (dc n) (0, 0) _ hC hu rfl infoD h
theorem st_DC {C : Array Value} (hx : a.eval (.tmp s) = .pointer (some ⟨g, 0, none⟩)) (hy : a.eval (.tmp u) = .agg C) (h2 : C.size = 2) (h1 : C.all (·.oneCell') = true) (hC : DRow w g n) (h : wpList Try.prog ops Q rest (a.put d undef) (w.setRow g C)) :
    wpList Try.prog ops Q ({ dst := d, op := .store 96 (.tmp s) (.tmp u), type := ty, pos := pos, after := af, guard := none } :: rest) a w :=
  wpList_plain rfl fun _ hK => wp_store_row _ _ _ rfl g C hx hy _ (dc n) hC (by rw [infoD, h2]) (by rw [h2]; rfl) h1 (hK _ _ h)
theorem st_D {m : Nat} (hx : a.eval (.tmp s) = .pointer (some ⟨g, 0, none⟩)) (hy : a.eval (.tmp u) = dbl m) (hC : DRow w g n) (h : wpList Try.prog ops Q rest (a.put d undef) (w.setRow g (dc m))) :
    wpList Try.prog ops Q ({ dst := d, op := .store 96 (.tmp s) (.tmp u), type := ty, pos := pos, after := af, guard := none } :: rest) a w :=
  st_DC hx hy (by unfold dc; rfl) (by unfold dc; simp [Value.oneCell']) hC h
end
theorem resD {fn : Func} {p : Tmp} (h : fn.results = #[.cell p 96]) {tmps : Array Value} {w : World} {g : Nat} {C : Array Value} (hp : tmps.getD p undef = .pointer (some ⟨g, 0, none⟩)) (hC : Blk w g 96 C) (h2 : C.size = 2) :
    (results fn tmps).run Try.prog w = .ok (.agg C) w := undD.elim fun _ hu => results_cell_row h tmps w g _ C (0, 0) _ hp hC hu rfl (by rw [infoD, h2])
theorem or4 {x r : Nat} (hr : r < 4) : bits BinOp.or IntKind.u64 (IntKind.u64.wrap ((x : Int) * 4)) (r : Nat) = ((4 * x % 18446744073709551616 + r : Nat) : Int) := by
  have e : IntKind.u64.wrap ((x : Int) * 4) = ((2 ^ 2 * (x % 4611686018427387904) : Nat) : Int) := by rw [IntKind.wrap_u64]; omega
  rw [e, bits_or_u64_nat _ _ (by omega) (by omega), or_add (by omega)]
  omega
theorem dmoved_any (n t : Nat) (ht : t < 4) (w : World) :
    Calls Try.prog 81 #[dbl n, .int .u64 t] w fun e w' => e = .returned (dbl ((4 * n + t) % 340282366920938463463374607431768211456)) ∧ Up w w' := by
  have h1 := or4 (x := n / 18446744073709551616) (r := n % 18446744073709551616 / 4611686018427387904) (by omega)
  have h2 := or4 (x := n % 18446744073709551616) (r := t) (by omega)
  have e : dbl ((4 * n + t) % 340282366920938463463374607431768211456) = .agg #[.int .u64 (4 * (n / 18446744073709551616) % 18446744073709551616 + n % 18446744073709551616 / 4611686018427387904 : Nat), .int .u64 (4 * (n % 18446744073709551616) % 18446744073709551616 + t : Nat)] := dbl_of (by omega) (by omega)
  rw [e, ← h1, ← h2, dbl_of (n := n) rfl rfl]
  clear e h1 h2
  generalize n / 18446744073709551616 = h
  generalize n % 18446744073709551616 = l
  go_enter Try.func81, Try.ntmps81
  go_wp2
  exact bodyPost_ret (resD rfl rfl (Blk.new _ _ (by simp)) rfl) rfl ⟨rfl, (by repeat (first | assumption | (with_reducible apply Up.of) | (with_reducible exact Below.refl _ _) | (with_reducible exact Up.refl _) | ((with_reducible apply bl_setRow); (focus (first | exact Nat.le_refl _ | (simp; done) | (simp; omega) | omega))) | (with_reducible apply below_drewN) | (with_reducible apply Below.drew) | ((with_reducible apply bl_alloc); (focus (first | exact Nat.le_refl _ | (simp; done) | (simp; omega) | omega))) | ((with_reducible apply bl_setCell); (focus (first | exact Nat.le_refl _ | (simp; done) | (simp; omega) | omega))) | ((with_reducible apply up_tr); assumption)))⟩
theorem dbelow_any (n m : Nat) (w : World) :
    Calls Try.prog 82 #[dbl n, dbl m] w fun e w' => e = .returned (.bool (decide (n < m))) ∧ Up w w' := by
  have e : decide (n < m) = (decide (n / 18446744073709551616 < m / 18446744073709551616) || decide (n / 18446744073709551616 = m / 18446744073709551616) && decide (n % 18446744073709551616 < m % 18446744073709551616)) := by
    rw [Bool.eq_iff_iff]; simp; omega
  rw [e, dbl_of (n := n) rfl rfl, dbl_of (n := m) rfl rfl]
  clear e
  generalize n / 18446744073709551616 = h
  generalize n % 18446744073709551616 = l
  generalize m / 18446744073709551616 = h'
  generalize m % 18446744073709551616 = l'
  by_cases c1 : h < h'
  · have d1 : decide ((h : Int) < h') = true := decide_eq_true (by omega)
    rw [decide_eq_true c1, Bool.true_or]
    go_enter Try.func82, Try.ntmps82
    go_wp2
    go_ret
    exact ⟨rfl, (by repeat (first | assumption | (with_reducible apply Up.of) | (with_reducible exact Below.refl _ _) | (with_reducible exact Up.refl _) | ((with_reducible apply bl_setRow); (focus (first | exact Nat.le_refl _ | (simp; done) | (simp; omega) | omega))) | (with_reducible apply below_drewN) | (with_reducible apply Below.drew) | ((with_reducible apply bl_alloc); (focus (first | exact Nat.le_refl _ | (simp; done) | (simp; omega) | omega))) | ((with_reducible apply bl_setCell); (focus (first | exact Nat.le_refl _ | (simp; done) | (simp; omega) | omega))) | ((with_reducible apply up_tr); assumption)))⟩
  · have d1 : decide ((h : Int) < h') = false := decide_eq_false (by omega)
    rw [decide_eq_false c1, Bool.false_or]
    by_cases c2 : h = h'
    · subst c2
      rw [decide_eq_true rfl, Bool.true_and]
      go_enter Try.func82, Try.ntmps82
      go_wp2
      go_ret
      exact ⟨rfl, (by repeat (first | assumption | (with_reducible apply Up.of) | (with_reducible exact Below.refl _ _) | (with_reducible exact Up.refl _) | ((with_reducible apply bl_setRow); (focus (first | exact Nat.le_refl _ | (simp; done) | (simp; omega) | omega))) | (with_reducible apply below_drewN) | (with_reducible apply Below.drew) | ((with_reducible apply bl_alloc); (focus (first | exact Nat.le_refl _ | (simp; done) | (simp; omega) | omega))) | ((with_reducible apply bl_setCell); (focus (first | exact Nat.le_refl _ | (simp; done) | (simp; omega) | omega))) | ((with_reducible apply up_tr); assumption)))⟩
    · have d2 : ((h : Int) == h') = false := by simp; omega
      rw [decide_eq_false c2, Bool.false_and]
      go_enter Try.func82, Try.ntmps82
      go_wp2
      go_ret
      exact ⟨rfl, (by repeat (first | assumption | (with_reducible apply Up.of) | (with_reducible exact Below.refl _ _) | (with_reducible exact Up.refl _) | ((with_reducible apply bl_setRow); (focus (first | exact Nat.le_refl _ | (simp; done) | (simp; omega) | omega))) | (with_reducible apply below_drewN) | (with_reducible apply Below.drew) | ((with_reducible apply bl_alloc); (focus (first | exact Nat.le_refl _ | (simp; done) | (simp; omega) | omega))) | ((with_reducible apply bl_setCell); (focus (first | exact Nat.le_refl _ | (simp; done) | (simp; omega) | omega))) | ((with_reducible apply up_tr); assumption)))⟩
theorem dless_any (n m : Nat) (hm : m ≤ n) (hn : n < 340282366920938463463374607431768211456) (w : World) :
    Calls Try.prog 83 #[dbl n, dbl m] w fun e w' => e = .returned (dbl (n - m)) ∧ Up w w' := by
  obtain ⟨h, eh⟩ : ∃ h, n / 18446744073709551616 = h := ⟨_, rfl⟩
  obtain ⟨l, el⟩ : ∃ l, n % 18446744073709551616 = l := ⟨_, rfl⟩
  obtain ⟨h', eh'⟩ : ∃ h, m / 18446744073709551616 = h := ⟨_, rfl⟩
  obtain ⟨l', el'⟩ : ∃ l, m % 18446744073709551616 = l := ⟨_, rfl⟩
  obtain ⟨r, c, hs, hr, hc⟩ : ∃ r c : Nat, (∀ w, (callFunc 85 #[.int .u64 (l : Nat), .int .u64 (l' : Nat), .int .u64 0]).run Try.prog w = .ok (.value (.tuple #[.int .u64 (r : Nat), .int .u64 (c : Nat)])) w) ∧
      r = (l + 18446744073709551616 - l' - 0) % 18446744073709551616 ∧ c = (if l < l' + 0 then 1 else 0) := ⟨_, _, run_sub l l' 0 (by omega), rfl, rfl⟩
  obtain ⟨k, hk⟩ : ∃ k : Nat, k = h - h' - c := ⟨_, rfl⟩
  obtain ⟨j, hj⟩ : ∃ j : Nat, j = h - h' := ⟨_, rfl⟩
  have hle : h' + c ≤ h := by split at hc <;> omega
  have e1 : IntKind.u64.wrap ((h : Int) - h') = (j : Nat) := by rw [IntKind.wrap_u64]; omega
  have e2 : IntKind.u64.wrap ((j : Int) - c) = (k : Nat) := by rw [IntKind.wrap_u64]; omega
  have e3 : (n - m) / 18446744073709551616 = k := by split at hc <;> omega
  have e4 : (n - m) % 18446744073709551616 = r := by split at hc <;> omega
  rw [dbl_of eh el, dbl_of eh' el', dbl_of e3 e4]
  clear eh el eh' el' hr hc hk hj hle e3 e4 hm hn
  go_enter Try.func83, Try.ntmps83
  go_wp2
  exact bodyPost_ret (resD rfl rfl (Blk.new _ _ (by simp)) rfl) rfl ⟨rfl, (by repeat (first | assumption | (with_reducible apply Up.of) | (with_reducible exact Below.refl _ _) | (with_reducible exact Up.refl _) | ((with_reducible apply bl_setRow); (focus (first | exact Nat.le_refl _ | (simp; done) | (simp; omega) | omega))) | (with_reducible apply below_drewN) | (with_reducible apply Below.drew) | ((with_reducible apply bl_alloc); (focus (first | exact Nat.le_refl _ | (simp; done) | (simp; omega) | omega))) | ((with_reducible apply bl_setCell); (focus (first | exact Nat.le_refl _ | (simp; done) | (simp; omega) | omega))) | ((with_reducible apply up_tr); assumption)))⟩
/-- The root of a number's beginning, bit by bit. -/
structure RootInv (N i root rest A : Nat) : Prop where
  out : ∃ P F, F = 2 ^ i ∧ N * (F * F) = P * 340282366920938463463374607431768211456 + A ∧ A < 340282366920938463463374607431768211456 ∧ P = root * root + rest ∧ rest ≤ 2 * root ∧ root < F
theorem root_start {N : Nat} (h : N < 340282366920938463463374607431768211456) : RootInv N 0 0 0 N := ⟨0, 1, rfl, by omega, h, rfl, by omega, by omega⟩
theorem root_bound {N i root rest A : Nat} (h : RootInv N i root rest A) (hi : i < 64) : root < 9223372036854775808 ∧ rest ≤ 2 * root ∧ A < 340282366920938463463374607431768211456 := by
  obtain ⟨P, F, hF, h1, h2, h3, h4, h5⟩ := h.out
  have : F ≤ 2 ^ 63 := by rw [hF]; exact Nat.pow_le_pow_right (by decide) (by omega)
  omega
theorem root_next {N i root rest A t : Nat} (h : RootInv N i root rest A) (ht : t = A / 85070591730234615865843651857942052864) :
    (4 * root + 1 ≤ 4 * rest + t → RootInv N (i + 1) (2 * root + 1) (4 * rest + t - (4 * root + 1)) (4 * A % 340282366920938463463374607431768211456)) ∧
    (¬ 4 * root + 1 ≤ 4 * rest + t → RootInv N (i + 1) (2 * root) (4 * rest + t) (4 * A % 340282366920938463463374607431768211456)) := by
  obtain ⟨P, F, hF, h1, h2, h3, h4, h5⟩ := h.out
  have hF' : F * 2 = 2 ^ (i + 1) := by rw [hF, Nat.pow_succ]
  have hN : N * (F * 2 * (F * 2)) = (4 * P + t) * 340282366920938463463374607431768211456 + 4 * A % 340282366920938463463374607431768211456 := by
    have : N * (F * 2 * (F * 2)) = 4 * (N * (F * F)) := by grind
    rw [this, h1]
    omega
  have hm : 4 * A % 340282366920938463463374607431768211456 < 340282366920938463463374607431768211456 := Nat.mod_lt _ (by decide)
  refine ⟨fun hc => ⟨4 * P + t, F * 2, hF', hN, hm, ?_, ?_, by omega⟩, fun hc => ⟨4 * P + t, F * 2, hF', hN, hm, ?_, ?_, by omega⟩⟩
  · have : (2 * root + 1) * (2 * root + 1) = 4 * (root * root) + 4 * root + 1 := by grind
    rw [this, h3]
    omega
  · omega
  · have : (2 * root) * (2 * root) = 4 * (root * root) := by grind
    rw [this, h3]
    omega
  · omega
theorem root_end {N root rest A : Nat} (h : RootInv N 64 root rest A) : root * root ≤ N ∧ N < (root + 1) * (root + 1) ∧ root < 18446744073709551616 := by
  obtain ⟨P, F, hF, h1, h2, h3, h4, h5⟩ := h.out
  have hF' : F = 18446744073709551616 := hF
  subst hF'
  have : (root + 1) * (root + 1) = root * root + 2 * root + 1 := by grind
  rw [this]
  generalize root * root = q at *
  omega
theorem root_one {N r s : Nat} (h1 : r * r ≤ N) (h2 : N < (s + 1) * (s + 1)) : r ≤ s := by
  rcases Nat.lt_or_ge s r with h | h
  · have := Nat.mul_le_mul (show s + 1 ≤ r from h) (show s + 1 ≤ r from h)
    omega
  · exact h
set_option maxHeartbeats 1000000 in
theorem fx_root (hi lo r : Nat) (hh : hi < 18446744073709551616) (hl : lo < 18446744073709551616) (h1 : r * r ≤ 18446744073709551616 * hi + lo) (h2 : 18446744073709551616 * hi + lo < (r + 1) * (r + 1)) (w : World) :
    Calls Try.prog 54 #[.int .u64 hi, .int .u64 lo] w fun e w' => e = .returned (.int .u64 (r : Nat)) ∧ Up w w' := by
  obtain ⟨N, hN⟩ : ∃ N, N = 18446744073709551616 * hi + lo := ⟨_, rfl⟩
  rw [← hN] at h1 h2
  have hAA := dbl_of (n := N) (h := hi) (l := lo) (by omega) (by omega)
  have h0 := root_start (N := N) (by omega)
  have HR := hid h1
  have HR2 := hid h2
  have H0 := hid h0
  have hC : (#[.int .u64 hi, .int .u64 lo] : Array Value) = dc N := by unfold dc; rw [show N / 18446744073709551616 = hi by omega, show N % 18446744073709551616 = lo by omega]
  clear h1 h2 h0 hAA hN
  go_enter Try.func54, Try.ntmps54
  go_wp2_with (first | ((with_reducible apply st_D); exact rfl; exact rfl; (focus (repeat (first | assumption | ((with_reducible apply drow_new); (focus (first | rfl | (simp; done)))) | ((with_reducible apply drow_newz); (focus (first | rfl | (simp; done)))) | (with_reducible apply drow_same) | ((with_reducible apply drow_else); (focus (first | (simp; done) | (simp; omega) | omega))) | (with_reducible apply drow_alloc) | ((with_reducible apply drow_up); assumption))))))
  clear hC
  go_loopw [5, 12] (fun tr ti wr => ∃ (i root rest A : Nat), i ≤ 64 ∧ tr = .int .u64 (root : Nat) ∧ ti = .int .i64 (i : Nat) ∧ RootInv N i root rest A ∧ DRow wr w.heap.size rest ∧ DRow wr (w.heap.size + 1) A ∧ Below w.heap.size w wr)
    (fun _ ti _ => 64 - (intOf ti).toNat)
  case atStart => exact ⟨0, 0, 0, N, by omega, rfl, rfl, H0.out, (by (repeat (first | assumption | ((with_reducible apply drow_new); (focus (first | rfl | (simp; done)))) | ((with_reducible apply drow_newz); (focus (first | rfl | (simp; done)))) | (with_reducible apply drow_same) | ((with_reducible apply drow_else); (focus (first | (simp; done) | (simp; omega) | omega))) | (with_reducible apply drow_alloc) | ((with_reducible apply drow_up); assumption)))), (by (repeat (first | assumption | ((with_reducible apply drow_new); (focus (first | rfl | (simp; done)))) | ((with_reducible apply drow_newz); (focus (first | rfl | (simp; done)))) | (with_reducible apply drow_same) | ((with_reducible apply drow_else); (focus (first | (simp; done) | (simp; omega) | omega))) | (with_reducible apply drow_alloc) | ((with_reducible apply drow_up); assumption)))), (by repeat (first | assumption | (with_reducible apply Up.of) | (with_reducible exact Below.refl _ _) | (with_reducible exact Up.refl _) | ((with_reducible apply bl_setRow); (focus (first | exact Nat.le_refl _ | (simp; done) | (simp; omega) | omega))) | (with_reducible apply below_drewN) | (with_reducible apply Below.drew) | ((with_reducible apply bl_alloc); (focus (first | exact Nat.le_refl _ | (simp; done) | (simp; omega) | omega))) | ((with_reducible apply bl_setCell); (focus (first | exact Nat.le_refl _ | (simp; done) | (simp; omega) | omega))) | ((with_reducible apply up_tr); assumption)))⟩
  case round =>
    obtain ⟨i, root, rest, A, hi, rfl, rfl, hinv, hR, hA, hB⟩ := hrel
    have HI := hid hinv
    by_cases hlt : i < 64
    · obtain ⟨b1, b2, b3⟩ := root_bound hinv hlt
      obtain ⟨t, ht⟩ : ∃ t, t = A / 85070591730234615865843651857942052864 := ⟨_, rfl⟩
      have hnx := root_next hinv ht
      have hm1 := fun w => dmoved_any rest t (by omega) w
      rw [Nat.mod_eq_of_lt (show 4 * rest + t < 340282366920938463463374607431768211456 by omega)] at hm1
      have hm2 := fun w => dmoved_any A 0 (by decide) w
      rw [Nat.add_zero] at hm2
      have hm3 := fun w => dmoved_any root 1 (by decide) w
      rw [Nat.mod_eq_of_lt (show 4 * root + 1 < 340282366920938463463374607431768211456 by omega), dbl_of (n := root) (h := 0) (l := root) (by omega) (by omega)] at hm3
      rw [show ((0 : Nat) : Int) = 0 from rfl] at hm2 hm3
      rw [show ((1 : Nat) : Int) = 1 from rfl] at hm3
      have hbl := fun w => dbelow_any (4 * rest + t) (4 * root + 1) w
      have hle := fun h w => dless_any (4 * rest + t) (4 * root + 1) h (by omega) w
      have hhi := hA.high
      obtain ⟨AH, hAH⟩ : ∃ x, A / 18446744073709551616 = x := ⟨_, rfl⟩
      rw [hAH] at hhi
      have E0 : (AH : Int) / 4611686018427387904 = (t : Nat) := by omega
      obtain ⟨root2, hr2⟩ : ∃ x, x = 2 * root := ⟨_, rfl⟩
      have E1 : IntKind.u64.wrap ((root : Int) * 2) = (root2 : Nat) := by rw [IntKind.wrap_u64]; omega
      have E2 : bits BinOp.or IntKind.u64 (root2 : Int) 1 = ((2 * root + 1 : Nat) : Int) := by
        have := bits_or_u64_nat root2 1 (by omega) (by omega)
        rw [hr2] at this ⊢
        rw [show ((1 : Nat) : Int) = 1 from rfl] at this
        rw [this, show 2 * root = 2 ^ 1 * root from rfl, or_add (show 1 < 2 ^ 1 by decide)]
      have hffz := hA.frozen 0
      have hlt1 := hA.lt
      rw [← hr2] at hnx
      generalize 4 * A % 340282366920938463463374607431768211456 = A' at *
      generalize 4 * root + 1 = more at *
      generalize 4 * rest + t = rest' at *
      have HM1 := hid hm1
      have HM2 := hid hm2
      have HM3 := hid hm3
      by_cases hc : more ≤ rest'
      · have hd : decide (rest' < more) = false := decide_eq_false (by omega)
        rw [hd] at hbl
        have HB := hid hbl
        have HL := hid (hle hc)
        have HNX := hid (hnx.1 hc)
        have HR3 := hid hr2
        clear hinv b1 b2 b3 ht hnx hm1 hm2 hm3 hbl hle hAH hr2 hc hd
        go_wp2_with (first | ((with_reducible apply ld_D); exact rfl; (focus (repeat (first | assumption | ((with_reducible apply drow_new); (focus (first | rfl | (simp; done)))) | ((with_reducible apply drow_newz); (focus (first | rfl | (simp; done)))) | (with_reducible apply drow_same) | ((with_reducible apply drow_else); (focus (first | (simp; done) | (simp; omega) | omega))) | (with_reducible apply drow_alloc) | ((with_reducible apply drow_up); assumption))))) | ((with_reducible apply st_D); exact rfl; exact rfl; (focus (repeat (first | assumption | ((with_reducible apply drow_new); (focus (first | rfl | (simp; done)))) | ((with_reducible apply drow_newz); (focus (first | rfl | (simp; done)))) | (with_reducible apply drow_same) | ((with_reducible apply drow_else); (focus (first | (simp; done) | (simp; omega) | omega))) | (with_reducible apply drow_alloc) | ((with_reducible apply drow_up); assumption))))) | (go_at_call 81; (first | (with_reducible refine (HM1.out _).mono ?_) | (with_reducible refine (HM2.out _).mono ?_) | (with_reducible refine (HM3.out _).mono ?_)); rintro e w' ⟨rfl, hu⟩; have hsz := hu.size; (try simp at hsz)) | (go_at_call 82; (with_reducible refine (HB.out _).mono ?_); rintro e w' ⟨rfl, hu⟩; have hsz := hu.size; (try simp at hsz)) | (go_at_call 83; (with_reducible refine (HL.out _).mono ?_); rintro e w' ⟨rfl, hu⟩; have hsz := hu.size; (try simp at hsz)))
        refine ⟨⟨i + 1, 2 * root + 1, rest' - more, A', by omega, by go_num, by go_num, (by rw [← HR3.out]; exact HNX.out), (by repeat (first | assumption | ((with_reducible apply drow_new); (focus (first | rfl | (simp; done)))) | ((with_reducible apply drow_newz); (focus (first | rfl | (simp; done)))) | (with_reducible apply drow_same) | ((with_reducible apply drow_else); (focus (first | (simp; done) | (simp; omega) | omega))) | (with_reducible apply drow_alloc) | ((with_reducible apply drow_up); assumption))), (by repeat (first | assumption | ((with_reducible apply drow_new); (focus (first | rfl | (simp; done)))) | ((with_reducible apply drow_newz); (focus (first | rfl | (simp; done)))) | (with_reducible apply drow_same) | ((with_reducible apply drow_else); (focus (first | (simp; done) | (simp; omega) | omega))) | (with_reducible apply drow_alloc) | ((with_reducible apply drow_up); assumption))), (by repeat (first | assumption | (with_reducible apply Up.of) | (with_reducible exact Below.refl _ _) | (with_reducible exact Up.refl _) | ((with_reducible apply bl_setRow); (focus (first | exact Nat.le_refl _ | (simp; done) | (simp; omega) | omega))) | (with_reducible apply below_drewN) | (with_reducible apply Below.drew) | ((with_reducible apply bl_alloc); (focus (first | exact Nat.le_refl _ | (simp; done) | (simp; omega) | omega))) | ((with_reducible apply bl_setCell); (focus (first | exact Nat.le_refl _ | (simp; done) | (simp; omega) | omega))) | ((with_reducible apply up_tr); assumption)))⟩, ?_⟩
        simp [intOf] <;> omega
      · have hd : decide (rest' < more) = true := decide_eq_true (by omega)
        rw [hd] at hbl
        have HB := hid hbl
        have HNX := hid (hnx.2 hc)
        have HR3 := hid hr2
        clear hinv b1 b2 b3 ht hnx hm1 hm2 hm3 hbl hle hAH hr2 hc hd
        go_wp2_with (first | ((with_reducible apply ld_D); exact rfl; (focus (repeat (first | assumption | ((with_reducible apply drow_new); (focus (first | rfl | (simp; done)))) | ((with_reducible apply drow_newz); (focus (first | rfl | (simp; done)))) | (with_reducible apply drow_same) | ((with_reducible apply drow_else); (focus (first | (simp; done) | (simp; omega) | omega))) | (with_reducible apply drow_alloc) | ((with_reducible apply drow_up); assumption))))) | ((with_reducible apply st_D); exact rfl; exact rfl; (focus (repeat (first | assumption | ((with_reducible apply drow_new); (focus (first | rfl | (simp; done)))) | ((with_reducible apply drow_newz); (focus (first | rfl | (simp; done)))) | (with_reducible apply drow_same) | ((with_reducible apply drow_else); (focus (first | (simp; done) | (simp; omega) | omega))) | (with_reducible apply drow_alloc) | ((with_reducible apply drow_up); assumption))))) | (go_at_call 81; (first | (with_reducible refine (HM1.out _).mono ?_) | (with_reducible refine (HM2.out _).mono ?_) | (with_reducible refine (HM3.out _).mono ?_)); rintro e w' ⟨rfl, hu⟩; have hsz := hu.size; (try simp at hsz)) | (go_at_call 82; (with_reducible refine (HB.out _).mono ?_); rintro e w' ⟨rfl, hu⟩; have hsz := hu.size; (try simp at hsz)))
        refine ⟨⟨i + 1, root2, rest', A', by omega, rfl, by go_num, HNX.out, (by repeat (first | assumption | ((with_reducible apply drow_new); (focus (first | rfl | (simp; done)))) | ((with_reducible apply drow_newz); (focus (first | rfl | (simp; done)))) | (with_reducible apply drow_same) | ((with_reducible apply drow_else); (focus (first | (simp; done) | (simp; omega) | omega))) | (with_reducible apply drow_alloc) | ((with_reducible apply drow_up); assumption))), (by repeat (first | assumption | ((with_reducible apply drow_new); (focus (first | rfl | (simp; done)))) | ((with_reducible apply drow_newz); (focus (first | rfl | (simp; done)))) | (with_reducible apply drow_same) | ((with_reducible apply drow_else); (focus (first | (simp; done) | (simp; omega) | omega))) | (with_reducible apply drow_alloc) | ((with_reducible apply drow_up); assumption))), (by repeat (first | assumption | (with_reducible apply Up.of) | (with_reducible exact Below.refl _ _) | (with_reducible exact Up.refl _) | ((with_reducible apply bl_setRow); (focus (first | exact Nat.le_refl _ | (simp; done) | (simp; omega) | omega))) | (with_reducible apply below_drewN) | (with_reducible apply Below.drew) | ((with_reducible apply bl_alloc); (focus (first | exact Nat.le_refl _ | (simp; done) | (simp; omega) | omega))) | ((with_reducible apply bl_setCell); (focus (first | exact Nat.le_refl _ | (simp; done) | (simp; omega) | omega))) | ((with_reducible apply up_tr); assumption)))⟩, ?_⟩
        simp [intOf] <;> omega
    · obtain rfl : i = 64 := by omega
      obtain ⟨e1, e2, e3⟩ := root_end hinv
      have he : root = r := Nat.le_antisymm (root_one e1 HR2.out) (root_one HR.out e2)
      subst he
      clear hinv e1 e2 e3 HR HR2
      go_wp2
      go_ret
      exact ⟨rfl, (by repeat (first | assumption | (with_reducible apply Up.of) | (with_reducible exact Below.refl _ _) | (with_reducible exact Up.refl _) | ((with_reducible apply bl_setRow); (focus (first | exact Nat.le_refl _ | (simp; done) | (simp; omega) | omega))) | (with_reducible apply below_drewN) | (with_reducible apply Below.drew) | ((with_reducible apply bl_alloc); (focus (first | exact Nat.le_refl _ | (simp; done) | (simp; omega) | omega))) | ((with_reducible apply bl_setCell); (focus (first | exact Nat.le_refl _ | (simp; done) | (simp; omega) | omega))) | ((with_reducible apply up_tr); assumption)))⟩
end Go.Proofs.Ytiocolbaencbkaa
