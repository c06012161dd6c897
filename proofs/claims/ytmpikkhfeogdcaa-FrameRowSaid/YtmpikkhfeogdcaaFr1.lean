/-
  Frames: bytes of the call's own; a copy; how many a payload may have; a frame, the program's and the reference's.
-/
import Derived.Test.YtmpikkhfeogdcaaCr8
import Derived.Test.YtmpikkhfeogdcaaFr0
namespace Go.Proofs.Ytmpikkhfeogdcaa
open Go Go.RowKit
set_option maxRecDepth 100000

theorem fits_yes {n : Nat} (h1 : 1 ≤ n) (h40 : n ≤ 40) (w : World) : Calls Try.prog 15 #[.int .i64 (n : Nat)] w fun e w' => e = .returned (.bool true) ∧ w' = w := by
  have e := decide_eq_true (show (n : Int) ≤ 40 by omega)
  go_enter Try.func15, Try.ntmps15
  go_wp2
  go_ret
  exact ⟨rfl, rfl⟩
theorem fits_no {n : Nat} (h : ¬ (1 ≤ n ∧ n ≤ 40)) (w : World) : Calls Try.prog 15 #[.int .i64 (n : Nat)] w fun e w' => e = .returned (.bool false) ∧ w' = w := by
  by_cases h1 : 1 ≤ n
  · have h2 : ¬ n ≤ 40 := fun h2 => h ⟨h1, h2⟩
    have e := decide_eq_false (show ¬ (n : Int) ≤ 40 by omega)
    clear h
    go_enter Try.func15, Try.ntmps15
    go_wp2
    go_ret
    exact ⟨rfl, rfl⟩
  · clear h
    obtain rfl : n = 0 := by omega
    go_enter Try.func15, Try.ntmps15
    go_wp2
    go_ret
    exact ⟨rfl, rfl⟩
theorem copied_any {w : World} {v : Value} {l : List Nat} (hB : Bw w v l) : Calls Try.prog 19 #[v] w fun e w' => ∃ v', e = .returned v' ∧ OwnU w' w.heap.size v' l ∧ Up w w' := by
  have hlen : l.length ≤ 1000 := by obtain ⟨_, _, _, _, hb, _⟩ := hB; exact hb.1
  have HB := hid hB
  have HL := hid hlen
  clear hB hlen
  go_enter Try.func19, Try.ntmps19
  go_wp2_with (first
    | ((with_reducible apply appU (l := [])); exact rfl; exact rfl; exact OwnU.nil _ w.heap.size; exact HB.out; exact Nat.le_refl _; (focus (simpa using HL.out)); rintro v2 w2 hO2 hb2; rw [List.nil_append] at hO2))
  go_ret
  exact ⟨_, rfl, hO2, hb2⟩
/-- Bytes that the call itself lays. -/
theorem OwnU.lit {w : World} {base : Nat} {cs : List Value} {l : List Nat} (hb : base ≤ w.heap.size) (h : cs = valU l) (h2 : l.length ≤ 1000) (h3 : ∀ x ∈ l, x < 256) : OwnU (w.alloc (.cells cs.toArray 5)) base (.slice (some ⟨w.heap.size, 0, none⟩) l.length l.length) l := by
  subst h
  refine ⟨⟨h2, h3⟩, ?_⟩
  have hl : (valU l).length = l.length := by unfold valU; rw [List.length_map]
  have := World.ownsRow_lit (base := base) (e := 5) (size := 1) w (valU l).toArray l.length hb (by unfold maxLen; omega) (by simpa using hl)
  simpa using this
theorem put_no {w : World} {p : Option Addr} {n c : Nat} (h : ¬ (1 ≤ n ∧ n ≤ 40)) : Calls Try.prog 8 #[.slice p n c] w fun e w' => e = .returned (.tuple #[.slice none 0 0, .bool false]) ∧ w' = w := by
  have HF := hid (fits_no h)
  clear h
  go_enter Try.func8, Try.ntmps8
  go_wp2_with (first | (go_at_call 15; refine (HF.out _).mono ?_; rintro e w1 ⟨rfl, rfl⟩))
  go_ret2
  exact ⟨rfl, rfl⟩
theorem rframe_no {w : World} {p : Option Addr} {n c : Nat} (h : ¬ (1 ≤ n ∧ n ≤ 40)) : Calls Try.prog 9 #[.slice p n c] w fun e w' => e = .returned (.tuple #[.slice none 0 0, .bool false]) ∧ w' = w := by
  by_cases h0 : n = 0
  · subst h0
    go_enter Try.func9, Try.ntmps9
    go_wp2
    go_ret2
    exact ⟨rfl, rfl⟩
  · have h1 : 40 < n := by omega
    clear h
    go_enter Try.func9, Try.ntmps9
    go_wp2
    go_ret2
    exact ⟨rfl, rfl⟩
/-- What stands from i on in a slice of the call's own. -/
theorem OwnU.from {w : World} {base g N c : Nat} {L : List Nat} (h : OwnU w base (.slice (some ⟨g, 0, none⟩) N c) L) (hL : L.length = N) {i M : Nat} (hi : i < N) (hM : N - i = M) : Bw w (.slice (some ⟨g, i, none⟩) M (c - i)) (L.drop i) := by
  subst hM
  have h1 := h.bw.drop hL (Nat.le_of_lt hi)
  have hc : N ≤ c := by
    obtain ⟨g', c', C, hv, _, _, hc, _⟩ := h.open (by omega)
    injection hv with _ _ e3
    omega
  unfold fromP at h1
  rw [if_neg (by omega)] at h1
  have e : (Option.map (fun x : Addr => x.add i) (some ⟨g, 0, none⟩)) = some ⟨g, i, none⟩ := by
    show some (Addr.add _ _) = _
    unfold Addr.add
    by_cases h0 : i = 0
    · subst h0; rfl
    · rw [if_neg h0]; simp
  rw [e] at h1
  exact h1
theorem OwnU.is {w : World} {base : Nat} {v : Value} {l : List Nat} (h : OwnU w base v l) {N : Nat} (hN : l.length = N) (h0 : 0 < N) : ∃ g c, v = .slice (some ⟨g, 0, none⟩) N c ∧ N ≤ c ∧ base ≤ g ∧ OwnU w base (.slice (some ⟨g, 0, none⟩) N c) l := by
  subst hN
  obtain ⟨g, c, C, rfl, hb, _, hc, _⟩ := h.open h0
  exact ⟨g, c, rfl, hc, hb, h⟩
theorem wpList_run {ops : Array Oper} {rest : List Oper} {Q : Exit → Act → World → Prop} {a : Act} {w w' : World} {o : Oper} {v : Value} (hg : o.guard = none) (hr : (execOp a.eval o).run Try.prog w = .ok (.value v) w') (h : wpList Try.prog ops Q rest (a.put o.dst v) w') :
    wpList Try.prog ops Q (o :: rest) a w := wpList_plain hg fun _ hK => by
  unfold Oper.wp
  rw [hr]
  exact hK _ _ h
/-- x[i:], x[:i], x[i:j] of bytes. -/
theorem run_F {ev : Operand → Value} {w : World} {d : Option Tmp} {s k : Operand} {ty : TypeId} {pos : String} {af : Array Edge} {gd : Option (Nat × Bool)} {p : Option Addr} {n c i : Nat} (hi : i ≤ n) (hx : ev s = .slice p n c) (hk : ev k = .int .i64 (i : Int)) :
    (execOp ev { dst := d, op := .slice 22 s (some k) none none, type := ty, pos := pos, after := af, guard := gd }).run Try.prog w = .ok (.value (.slice (fromP p c i) (n - i) (c - i))) w := by
  unfold fromP
  go_simp
theorem run_T {ev : Operand → Value} {w : World} {d : Option Tmp} {s k : Operand} {ty : TypeId} {pos : String} {af : Array Edge} {gd : Option (Nat × Bool)} {p : Option Addr} {n c i : Nat} (hi : i ≤ n) (hc : n ≤ c) (hx : ev s = .slice p n c) (hk : ev k = .int .i64 (i : Int)) :
    (execOp ev { dst := d, op := .slice 22 s none (some k) none, type := ty, pos := pos, after := af, guard := gd }).run Try.prog w = .ok (.value (.slice p i c)) w := by
  go_simp
  intro h
  omega
theorem run_FT {ev : Operand → Value} {w : World} {d : Option Tmp} {s k m : Operand} {ty : TypeId} {pos : String} {af : Array Edge} {gd : Option (Nat × Bool)} {p : Option Addr} {n c i j : Nat} (hij : i ≤ j) (hj : j ≤ n) (hc : n ≤ c) (hx : ev s = .slice p n c) (hk : ev k = .int .i64 (i : Int)) (hm : ev m = .int .i64 (j : Int)) :
    (execOp ev { dst := d, op := .slice 22 s (some k) (some m) none, type := ty, pos := pos, after := af, guard := gd }).run Try.prog w = .ok (.value (.slice (fromP p c i) (j - i) (c - i))) w := by
  unfold fromP
  go_simp
  intro h
  omega
theorem slF {ops : Array Oper} {rest : List Oper} {Q : Exit → Act → World → Prop} {a : Act} {w : World} {d : Option Tmp} {s k : Operand} {ty : TypeId} {pos : String} {af : Array Edge} {p : Option Addr} {n c i : Nat} {I : Int} (hx : a.eval s = .slice p n c) (hk : a.eval k = .int .i64 I) (hI : I = (i : Int)) (hi : i ≤ n)
    (h : wpList Try.prog ops Q rest (a.put d (.slice (fromP p c i) (n - i) (c - i))) w) :
    wpList Try.prog ops Q ({ dst := d, op := .slice 22 s (some k) none none, type := ty, pos := pos, after := af, guard := none } :: rest) a w :=
  wpList_run rfl (run_F hi hx (hI ▸ hk)) h
theorem slT {ops : Array Oper} {rest : List Oper} {Q : Exit → Act → World → Prop} {a : Act} {w : World} {d : Option Tmp} {s k : Operand} {ty : TypeId} {pos : String} {af : Array Edge} {p : Option Addr} {n c i : Nat} {I : Int} (hx : a.eval s = .slice p n c) (hk : a.eval k = .int .i64 I) (hI : I = (i : Int)) (hi : i ≤ n) (hc : n ≤ c)
    (h : wpList Try.prog ops Q rest (a.put d (.slice p i c)) w) :
    wpList Try.prog ops Q ({ dst := d, op := .slice 22 s none (some k) none, type := ty, pos := pos, after := af, guard := none } :: rest) a w :=
  wpList_run rfl (run_T hi hc hx (hI ▸ hk)) h
theorem slFT {ops : Array Oper} {rest : List Oper} {Q : Exit → Act → World → Prop} {a : Act} {w : World} {d : Option Tmp} {s k m : Operand} {ty : TypeId} {pos : String} {af : Array Edge} {p : Option Addr} {n c i j : Nat} {I J : Int} (hx : a.eval s = .slice p n c) (hk : a.eval k = .int .i64 I) (hm : a.eval m = .int .i64 J) (hI : I = (i : Int)) (hJ : J = (j : Int)) (hij : i ≤ j) (hj : j ≤ n) (hc : n ≤ c)
    (h : wpList Try.prog ops Q rest (a.put d (.slice (fromP p c i) (j - i) (c - i))) w) :
    wpList Try.prog ops Q ({ dst := d, op := .slice 22 s (some k) (some m) none, type := ty, pos := pos, after := af, guard := none } :: rest) a w :=
  wpList_run rfl (run_FT hij hj hc hx (hI ▸ hk) (hJ ▸ hm)) h
set_option maxHeartbeats 1000000 in
theorem put_any {w : World} {p : Option Addr} {n c : Nat} {l : List Nat} (hn : l.length = n) (hB : Bw w (.slice p n c) l) (h1 : 1 ≤ n) (h40 : n ≤ 40) :
    Calls Try.prog 8 #[.slice p n c] w fun e w' => ∃ v, e = .returned (.tuple #[v, .bool true]) ∧ OwnU w' w.heap.size v (fr l) ∧ Up w w' := by
  have HF := hid (fits_yes h1 h40)
  have HB := hid (fun w' (hu : Up w w') => hB.up hu)
  have HL := hid hB.lt
  have HN := hid hn
  have hs := frS_lt hB.lt (by omega)
  obtain ⟨s, hse⟩ : ∃ s, frS l = s := ⟨_, rfl⟩
  have HR := hid (show fr l = ([170, 85, n] ++ l) ++ [s / 256, s % 256] from by unfold fr; rw [hse, hn]; rfl)
  rw [hse] at hs
  have HS := hid (show crL 65535 [([170, 85, n] ++ l).drop 2].flatten = s by rw [flat_one, ← hse, ← hn]; rfl)
  have HX := hid (show (s : Int) / 256 = ((s / 256 : Nat) : Int) by omega)
  have HY := hid (show (s : Int) % 256 = ((s % 256 : Nat) : Int) by omega)
  have h5 : s / 256 < 256 := by omega
  have h6 : s % 256 < 256 := by omega
  clear hB hse
  go_enter Try.func8, Try.ntmps8
  go_wp2_with (first
    | (go_at_call 15; refine (HF.out _).mono ?_; rintro e w1 ⟨rfl, rfl⟩)
    | ((with_reducible apply appU (l := [170, 85, n])); exact rfl; exact rfl; exact OwnU.lit (l := [170, 85, n]) (Nat.le_refl _) rfl (by simp) (by simp; omega); exact HB.out _ (Up.alloc _ _); exact (Up.alloc _ _).size; (focus (rw [HN.out]; simp; omega)); rintro v2 w2 hO2 hb2; obtain ⟨g2, c2, rfl, hc2, hg2, hO3⟩ := hO2.is (N := n + 3) (by rw [List.length_append, HN.out]; simp; omega) (by omega))
    | (go_at_call 16; with_reducible refine (sum_is (Pw.one (new_at rfl) ((hO3.from (by rw [List.length_append, HN.out]; simp; omega) (i := 2) (M := n + 1) (by omega) (by omega)).up (Up.alloc _ _))) HS.out).mono ?_; rintro e w4 ⟨rfl, rfl⟩)
    | ((with_reducible apply appU (l := [170, 85, n] ++ l)); exact rfl; exact rfl; exact hO3.up ((Up.alloc _ _).trans (Up.alloc _ _)); exact Bw.pair (new_at (by simp)) HX.out HY.out h5 h6; exact Nat.le_trans (Nat.le_trans (Up.alloc _ _).size hb2.size) (Up.trans (Up.alloc _ _) (Up.alloc _ _)).size; (focus (rw [List.length_append, HN.out]; simp; omega)); rintro v5 w5 hO5 hb5))
  go_ret2
  exact ⟨_, rfl, by rw [HR.out]; exact hO5, Below.trans (Up.alloc _ _) (Below.trans hb2 (Below.trans (Below.mono ((Up.alloc _ _).trans (Up.alloc _ _)) (Nat.le_trans (Up.alloc _ _).size hb2.size)) hb5))⟩
set_option maxHeartbeats 1000000 in
theorem rframe_any {w : World} {p : Option Addr} {n c : Nat} {l : List Nat} (hn : l.length = n) (hB : Bw w (.slice p n c) l) (h1 : 1 ≤ n) (h40 : n ≤ 40) :
    Calls Try.prog 9 #[.slice p n c] w fun e w' => ∃ v, e = .returned (.tuple #[v, .bool true]) ∧ OwnU w' w.heap.size v (fr l) ∧ Up w w' := by
  have HB := hid (fun w' (hu : Up w w') => hB.up hu)
  have HL := hid hB.lt
  have HN := hid hn
  have hs := frS_lt hB.lt (by omega)
  obtain ⟨s, hse⟩ : ∃ s, frS l = s := ⟨_, rfl⟩
  have HR := hid (show fr l = ([170, 85] ++ ([n] ++ l)) ++ [s / 256, s % 256] from by unfold fr; rw [hse, hn]; rfl)
  rw [hse] at hs
  have HS := hid (show crL 65535 ([n] ++ l) = s by rw [← hse, ← hn]; rfl)
  have HX := hid (show (s : Int) / 256 = ((s / 256 : Nat) : Int) by omega)
  have HY := hid (show (s : Int) % 256 = ((s % 256 : Nat) : Int) by omega)
  have h5 : s / 256 < 256 := by omega
  have h6 : s % 256 < 256 := by omega
  clear hB hse
  go_enter Try.func9, Try.ntmps9
  go_wp2_with (first
    | ((with_reducible apply appU (l := [n])); exact rfl; exact rfl; exact OwnU.lit (l := [n]) (Nat.le_refl _) rfl (by simp) (by simp; omega); exact HB.out _ (Up.alloc _ _); exact (Up.alloc _ _).size; (focus (rw [HN.out]; simp; omega)); rintro v2 w2 hO2 hb2; obtain ⟨g2, c2, rfl, hc2, hg2, hO3⟩ := hO2.is (N := n + 1) (by rw [List.length_append, HN.out]; simp; omega) (by omega))
    | (go_at_call 17; with_reducible refine (rsum_is hO3.bw HS.out).mono ?_; rintro e w4 ⟨rfl, rfl⟩)
    | ((with_reducible apply appU (l := [170, 85])); exact rfl; exact rfl; exact OwnU.lit (l := [170, 85]) (Nat.le_trans (Up.alloc _ _).size hb2.size) rfl (by simp) (by simp); exact hO3.bw.up (Up.alloc _ _); exact Nat.le_trans (Nat.le_trans (Up.alloc _ _).size hb2.size) (Up.alloc _ _).size; (focus (rw [List.length_append, HN.out]; simp; omega)); rintro v5 w5 hO5 hb5; obtain ⟨g5, c5, rfl, hc5, hg5, hO6⟩ := hO5.is (N := n + 3) (by rw [List.length_append, List.length_append, HN.out]; simp; omega) (by omega))
    | ((with_reducible apply appU (l := [170, 85] ++ ([n] ++ l))); exact rfl; exact rfl; exact hO6.up (Up.alloc _ _); exact Bw.pair (new_at rfl) HX.out HY.out h5 h6; exact Nat.le_trans (Nat.le_trans (Nat.le_trans (Nat.le_trans (Up.alloc _ _).size hb2.size) (Up.alloc _ _).size) hb5.size) (Up.alloc _ _).size; (focus (rw [List.length_append, List.length_append, HN.out]; simp; omega)); rintro v7 w7 hO7 hb7))
  go_ret2
  have k2 := Nat.le_trans (Up.alloc _ _).size hb2.size
  have k5 := Nat.le_trans k2 (Nat.le_trans (Up.alloc _ _).size hb5.size)
  exact ⟨_, rfl, by rw [HR.out]; exact hO7, Below.trans (Up.alloc _ _) (Below.trans hb2 (Below.trans (Below.mono (Up.alloc _ _) k2) (Below.trans hb5 (Below.trans (Below.mono (Up.alloc _ _) k5) hb7))))⟩
end Go.Proofs.Ytmpikkhfeogdcaa
